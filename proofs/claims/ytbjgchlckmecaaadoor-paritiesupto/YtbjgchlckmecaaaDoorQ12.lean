/-
  The walk of Book's restore.
-/
import Derived.Test.YtbjgchlckmecaaaDoorQ11
import Derived.Laws.CopyOwn
namespace Go.Proofs.YtbjgchlckmecaaaDoor
open Go.RowKit
set_option maxRecDepth 100000
set_option maxHeartbeats 2000000
/-- a list of bools that came in, with its room -/
structure ArgB (w : World) (a : Option Addr) (n c : Nat) (h : Nat → Bool) : Prop where
  cells : InB w a n h
  size : n ≤ 1048576
  nil : a = none → n = 0
theorem ArgB.below {w w' : World} {a : Option Addr} {n c : Nat} {h : Nat → Bool} (hA : ArgB w a n c h) (hb : Below w.heap.size w w') : ArgB w' a n c h := ⟨hA.cells.below hb, hA.size, hA.nil⟩
theorem info4 : (Tryd.prog.info? 4).map (fun i => (i.zero, i.size, i.bytes)) = some (some (.bool false), 1, 1) := by kernel_rfl
theorem size4 : (Tryd.prog.info? 4).map (·.size) = some 1 := by kernel_rfl
theorem eqlB_none (W : World) : (binOp .eql 32 (.slice none 0 0) (.slice none 0 0)).run Tryd.prog W = .ok (.bool true) W := by kernel_rfl
theorem eqlB_some (ad : Addr) (n cap : Nat) (W : World) : (binOp .eql 32 (.slice (some ad) n cap) (.slice none 0 0)).run Tryd.prog W = .ok (.bool false) W := by kernel_rfl
/-- the bools and nothing behind them -/
def hbF (h : Nat → Bool) (n : Nat) : Nat → Value := fun i => .bool (if i < n then h i else false)
def bV (h : Nat → Bool) (n : Nat) : List Value := (List.range n).map fun i => .bool (h i)
theorem bV_len (h : Nat → Bool) (n : Nat) : (bV h n).length = n := by simp [bV]
theorem bV_get (h : Nat → Bool) (n i : Nat) (hi : i < n) : (bV h n)[i]? = some (.bool (h i)) := by simp [bV, hi]
theorem bV_one (h : Nat → Bool) (n : Nat) : ∀ u ∈ bV h n, u.oneCell' = true := by
  intro u hu
  simp only [bV, List.mem_map] at hu
  obtain ⟨i, _, rfl⟩ := hu
  rfl
theorem splice_row (h : Nat → Bool) (n m : Nat) (hnm : n ≤ m) : (splice (rowV m (fun _ => .bool false)).toList 0 (bV h n)).toArray = rowV m (hbF h n) := by
  apply Array.ext_getElem?
  intro i
  have hl : (rowV m (fun _ => Value.bool false)).toList.length = m := by simp [rowV]
  unfold splice
  rw [List.take_zero, List.nil_append, bV_len, Nat.zero_add]
  rw [List.getElem?_toArray]
  by_cases hi : i < n
  · rw [List.getElem?_append_left (by rw [bV_len]; exact hi), bV_get h n i hi, rowV_get m _ i (by omega)]
    simp [hbF, hi]
  · rw [List.getElem?_append_right (by rw [bV_len]; omega), bV_len, List.getElem?_drop, show n + (i - n) = i by omega]
    by_cases hm : i < m
    · rw [rowV_get m _ i hm, Array.getElem?_toList, rowV_get m _ i hm]; simp [hbF, hi]
    · rw [rowV_none m _ i hm, Array.getElem?_toList, rowV_none m _ i hm]
/-- the bools, the first i of them written over -/
def doneF (h : Nat → Bool) (n i : Nat) : Nat → Value := fun j => if j < i then .bool true else hbF h n j
theorem doneF_0 (h : Nat → Bool) (n j : Nat) : hbF h n j = doneF h n 0 j := by simp [doneF]
theorem doneF_step (h : Nat → Bool) (n i j : Nat) : updV (doneF h n i) i (.bool true) j = doneF h n (i + 1) j := by
  unfold updV doneF
  by_cases e : j = i
  · subst e; simp
  · rw [if_neg e]
    by_cases l : j < i
    · rw [if_pos l, if_pos (by omega)]
    · rw [if_neg l, if_neg (by omega)]
theorem doneF_at (h : Nat → Bool) (n i : Nat) : doneF h n i i = hbF h n i := by simp [doneF]
theorem bool_eql (b : Bool) (W : World) : (binOp .eql 4 (.bool b) (.bool b)).run Tryd.prog W = .ok (.bool true) W := by cases b <;> kernel_rfl
theorem copy_bools (H : Nat → Bool) (a2 : Option Addr) (n2 c2 m : Nat) (r0 : World) (hnm : n2 ≤ m) (hI : InB r0 a2 n2 H) :
    ∃ r3, (Builtin.copy_ #[32, 32] 3 #[.slice (some ⟨r0.heap.size, 0, none⟩) m m, .slice a2 n2 c2]).run Tryd.prog (r0.alloc (.cells (madeCells #[.bool false] m) 4)) = .ok (goInt n2) r3 ∧ Rw r3 r0.heap.size m 4 (hbF H n2) ∧ Below r0.heap.size r0 r3 := by
  have hR : Rw (r0.alloc (.cells (madeCells #[.bool false] m) 4)) r0.heap.size m 4 (fun _ => .bool false) := Rw.made r0 m 4 (.bool false)
  have hB : Below r0.heap.size r0 (r0.alloc (.cells (madeCells #[.bool false] m) 4)) := (Below.refl _ _).alloc (Nat.le_refl _) _
  by_cases h0 : n2 = 0
  · subst h0
    exact ⟨_, run_copy_none (P := Tryd.prog) _ 32 32 3 4 _ a2 m m 0 c2 Tryd.underlying32 size4 (Nat.zero_min m), hR.to (fun j _ => by simp [hbF]), hB⟩
  · obtain ⟨b, o, rfl, hb, hc⟩ := (hI.below hB).at (by omega)
    have h := run_copy_row (P := Tryd.prog) (r0.alloc (.cells (madeCells #[.bool false] m) 4)) 32 32 3 4 r0.heap.size 0 m m ⟨b, o, none⟩ n2 c2 (rowV m (fun _ => .bool false)) 4 (bV H n2) Tryd.underlying32 size4 hR (by rw [bV_len]; exact (Nat.min_eq_left hnm).symm) (fun j u hu => by
      have hj : j < n2 := by have := (List.getElem?_eq_some_iff.1 hu).1; rwa [bV_len] at this
      rw [bV_get H n2 j hj] at hu
      simp only [Option.some.injEq] at hu
      subst hu
      rw [show (⟨b, o, none⟩ : Addr).add j = ⟨b, o + j, none⟩ by cases j <;> rfl]
      exact hc j hj) (by rw [bV_len]; simp [rowV]; omega) (bV_one H n2)
    rw [bV_len] at h
    refine ⟨_, h, ?_, below_setRow hB (Nat.le_refl _) _⟩
    have e := setRow_heap (r0.alloc (.cells (madeCells #[.bool false] m) 4)) r0.heap.size _ ((rowV m (fun _ => Value.bool false)).toList.take 0 ++ bV H n2 ++ (rowV m (fun _ => Value.bool false)).toList.drop (0 + n2)).toArray 4 _ hR
    have e2 := splice_row H n2 m hnm
    unfold splice at e2
    rw [bV_len] at e2
    rw [List.append_assoc, e2] at e
    rw [List.append_assoc, e2]
    exact e
theorem restore_some (o : Out) (L : Nat → ByteArray) (H : Nat → Bool) (X : List En) (B n : Nat) (v : Value) (K M : Int) (a1 : Option Addr) (n1 c1 : Nat) (ad : Addr) (n2 c2 : Nat) (W0 w : World) (hs : o.small)
    (hP : ∀ W v vb, Lv W v n1 L → Lb W vb n2 H → RGo o K M v vb W) (hR : ∀ W, In W a1 n1 L → InB W (some ad) n2 H → RRef o K M (.slice a1 n1 c1) (.slice (some ad) n2 c2) W)
    (hG : W0.cell? ⟨0, 0, none⟩ = some (.iface 128 (.agg #[.pointer (some ⟨1, 40, none⟩)]))) (hA1 : Arg W0 a1 n1 c1 L) (hA2 : ArgB W0 (some ad) n2 c2 H) (hbel : Below W0.heap.size W0 w) (hbB : W0.heap.size ≤ B) (hn : n ≤ 1000000000) (hXl : X.length ≤ 1000000000)
    (hB : w.heap[B]? = some (.cells #[.int .i64 n, v, .slice none 0 0, .slice none 0 0, .slice none 0 0] 29 (0, 0))) (hv : w.ownsRow W0.heap.size 54 5 v X.length (flat X)) (hX : ∀ e ∈ X, e.ok w) :
    Calls Tryd.prog 5 #[.pointer (some ⟨B, 0, none⟩), .agg #[.int .i64 K, .int .i64 M, .slice a1 n1 c1, .slice (some ad) n2 c2]] w fun e w' => e = .returned (.bool true) ∧ Kept W0 B n X w' := by
  have hq2 := hA2.size
  obtain ⟨m, hm, hmk⟩ : ∃ m, m = n2 + 8 ∧ ∀ W : World, (Instr.makeSlice 32 (.int .i64 ((n2 : Int) + 8)) (.int .i64 ((n2 : Int) + 8))).run Tryd.prog W = .ok (.slice (some ⟨W.heap.size, 0, none⟩) m m) (W.alloc (.cells (madeCells #[.bool false] m) 4)) := by
    refine ⟨n2 + 8, rfl, fun W => ?_⟩
    rw [show ((n2 : Int) + 8) = ((n2 + 8 : Nat) : Int) by omega]
    exact run_make_row' (P := Tryd.prog) 32 4 (.bool false) 1 Tryd.underlying32 info4 rfl .i64 .i64 (n2 + 8) (by omega) (by omega) W
  have hmb : m ≤ 1048584 := by omega
  have hnm : (n2 : Nat) ≤ m := by omega
  have HMI : Hid (((n2 : Int) + 8) = (m : Int)) := by show ((n2 : Int) + 8) = (m : Int); omega
  clear hm
  go_enter Tryd.func5, Tryd.ntmps5
  go_wp2_with fail
  obtain ⟨TV, hTV⟩ : ∃ TV : Array Value, TV = #[.int .i64 K, .int .i64 M, .slice a1 n1 c1, .slice (some ad) n2 c2] := ⟨_, rfl⟩
  obtain ⟨s0, hs0⟩ : ∃ s0, s0 = w.alloc (Obj.cells #[Value.int IntKind.i64 K, Value.int IntKind.i64 M, Value.slice a1 n1 c1, Value.slice (some ad) n2 c2] 34) := ⟨_, rfl⟩
  have HS0 : Hid (St W0 B w.heap.size n v X TV s0) := by
    have hb : Below w.heap.size w s0 := by rw [hs0]; exact (Below.refl _ _).alloc (Nat.le_refl _) _
    refine ⟨?_, ?_, own_below hv hb, fun e he => (hX e he).kp (Kp.below hb), hbel.trans (hb.mono hbel.size)⟩
    · rw [hs0, hTV]; exact heap_alloc_new _ _
    · rw [hb.block B (Array.getElem?_eq_some_iff.1 hB).1]; exact hB
  rw [← hs0]
  have n1b := hA1.size
  have HTV : Hid _ := hTV
  have HG : Hid (∀ W, Below W0.heap.size W0 W → W.cell? ⟨0, 0, none⟩ = some (.iface 128 (.agg #[.pointer (some ⟨1, 40, none⟩)]))) := fun W h => (h.cell (p := ⟨0, 0, none⟩) (block_lt_of_cell hG)).trans hG
  have HA1 : Hid (∀ W, Below W0.heap.size W0 W → Arg W a1 n1 c1 L) := fun W h => hA1.below h
  have HA2 : Hid (∀ W, Below W0.heap.size W0 W → ArgB W (some ad) n2 c2 H) := fun W h => hA2.below h
  have HP : Hid _ := hP
  have HR : Hid _ := hR
  have HSM : Hid _ := hs
  have HBB : Hid _ := hbB
  have hbw : W0.heap.size ≤ w.heap.size := hbel.size
  clear hs0 hG hA1 hA2 hB hv hX hTV hbel hP hR hs
  obtain ⟨xt, hxt⟩ : ∃ xt, xt = w.heap.size := ⟨_, rfl⟩
  rw [← hxt] at HS0 ⊢
  have HXT : Hid _ := hxt
  clear hxt
  have LARG1 : Hid _ := HA1.out _ HS0.out.bel
  refine (lent_any L a1 n1 c1 s0 (by omega) LARG1.out.cells).mono ?_
  rintro e r0 ⟨g1, h1, rfl, kg1, kh1, hLt0, hbl0⟩
  have HLt0 : Hid (LentAt r0 s0.heap.size g1 h1 n1 a1.isNone L) := hLt0
  have HBl0 : Hid (Below s0.heap.size s0 r0) := hbl0
  have HSr : Hid (St W0 B xt n v X TV r0) := HS0.out.below hbl0
  clear hLt0 hbl0
  have i3 : r0.cell? ⟨xt, 3, none⟩ = some (.slice (some ad) n2 c2) := by rw [cell_of_row _ _ _ _ 34 _ HSr.out.tv, HTV.out]; rfl
  have i3' : (r0.alloc (.cells (madeCells #[.bool false] m) 4)).cell? ⟨xt, 3, none⟩ = some (.slice (some ad) n2 c2) := (World.cell?_of_block (a := ⟨xt, 3, none⟩) (Below.heap_alloc _ _ _ (block_lt_of_cell i3))).trans i3
  obtain ⟨r1, hcp, hR1, hB1⟩ := copy_bools H (some ad) n2 c2 m r0 hnm (HA2.out _ HSr.out.bel).cells
  have HRH : Hid (Rw r1 r0.heap.size m 4 (hbF H n2)) := hR1
  have HLt1 : Hid (LentAt r1 s0.heap.size g1 h1 n1 a1.isNone L) := HLt0.out.below hB1
  have HBl1 : Hid (Below s0.heap.size s0 r1) := HBl0.out.trans (hB1.mono HBl0.out.size)
  have HS1 : Hid (St W0 B xt n v X TV r1) := HSr.out.below hB1
  have j3 : r1.cell? ⟨xt, 3, none⟩ = some (.slice (some ad) n2 c2) := by rw [cell_of_row _ _ _ _ 34 _ HS1.out.tv, HTV.out]; rfl
  have hg01 : g1 < r0.heap.size := HLt0.out.all.lt
  have hs0r : s0.heap.size ≤ r0.heap.size := HBl0.out.size
  obtain ⟨gh, hgh⟩ : ∃ gh, gh = r0.heap.size := ⟨_, rfl⟩
  have HGH0 : Hid _ := hgh
  rw [← hgh] at HRH hg01 hs0r
  clear hgh hR1 hB1
  have hnmI : (n2 : Int) ≤ (m : Int) := by omega
  have hnil := eqlB_some ad n2 c2
  go_wp2
  rw [← HGH0.out]
  have i0 : r1.cell? ⟨xt, 0, none⟩ = some (.int .i64 K) := by rw [cell_of_row _ _ _ _ 34 _ HS1.out.tv, HTV.out]; rfl
  have i1 : r1.cell? ⟨xt, 1, none⟩ = some (.int .i64 M) := by rw [cell_of_row _ _ _ _ 34 _ HS1.out.tv, HTV.out]; rfl
  clear i3 i3' j3 hcp
  have HLB : Hid (∀ W, Below r1.heap.size r1 W → Lb W (.slice (some ⟨gh, 0, none⟩) n2 m) n2 H) := fun W hW => .inr ⟨gh, m, rfl, Nat.lt_of_lt_of_le HRH.out.lt hW.size, fun i hi => by rw [(HRH.out.below hW HRH.out.lt).cell i (by omega)]; simp [hbF, bI, hi]⟩
  go_region_held3 (fun w' => w'.cell? ⟨xt, 0, none⟩ = some (.int .i64 K) ∧ w'.cell? ⟨xt, 1, none⟩ = some (.int .i64 M)) (go_keep) (first | (go_at_call 9; refine (list_any L s0.heap.size g1 h1 n1 a1.isNone _ (by omega) (by first | exact HLt1.out | exact HLt1.out.drew) (isNone_nil LARG1.out.nil)).mono ?_; rintro e r5 ⟨u2, rfl, ⟨q2, hq2⟩, hu2⟩; have j0 : r5.cell? ⟨xt, 0, none⟩ = some (.int .i64 K) := (by rw [hq2]; exact i0); have j1 : r5.cell? ⟨xt, 1, none⟩ = some (.int .i64 M) := (by rw [hq2]; exact i1); have hB5 : Below r1.heap.size r1 r5 := (by rw [hq2]; exact below_drewN (Below.refl _ _).drew _); have hL5 : LentAt r5 s0.heap.size g1 h1 n1 a1.isNone L := HLt1.out.below hB5; have hU5 : Lv r5 u2 n1 L := list_lv hL5 hu2; clear hq2 hu2) | (go_at_call 15; refine Calls.mono (HP.out _ _ _ hU5 (HLB.out _ hB5)) ?_; rintro e r6 ⟨x, y, rfl, hO6⟩; have hb6 := hO6.bel; have k0 : r6.cell? ⟨xt, 0, none⟩ = some (.int .i64 K) := (hb6.cell (p := ⟨xt, 0, none⟩) (block_lt_of_cell j0)).trans j0; have k1 : r6.cell? ⟨xt, 1, none⟩ = some (.int .i64 M) := (hb6.cell (p := ⟨xt, 1, none⟩) (block_lt_of_cell j1)).trans j1))
  have HLv : Hid (LentAt r6 s0.heap.size g1 h1 n1 a1.isNone L) := hL5.below hb6
  have HGH : Hid (GoHalf o r5.heap.size x y r6) := hO6.half
  have hgr1 : gh < r1.heap.size := HRH.out.lt
  have hgr5 : gh < r5.heap.size := Nat.lt_of_lt_of_le hgr1 hB5.size
  have hs05 : s0.heap.size ≤ r5.heap.size := Nat.le_trans HBl1.out.size hB5.size
  have HB16 : Hid (Below r1.heap.size r1 r6) := hB5.trans (hb6.mono hB5.size)
  have HB06 : Hid (Below s0.heap.size s0 r6) := HBl1.out.trans (HB16.out.mono HBl1.out.size)
  have HR6 : Hid (Rw r6 gh m 4 (hbF H n2)) := HRH.out.below HB16.out hgr1
  clear hO6 hU5 hL5 hB5 hb6 j0 j1 k0 k1 i0 i1 HLB
  go_wp2_with fail
  refine (still_any L s0.heap.size g1 h1 n1 s0.heap.size a1.isNone r6 (by omega) HLv.out (Nat.le_of_lt kg1) (Nat.ne_of_lt kg1)).mono ?_
  rintro e s1 ⟨rfl, hst1, hsq1⟩
  have HGS : Hid (GoHalf o r5.heap.size x y s1) := HGH.out.same (fun q hq => hsq1 q (by omega))
  have HB1 : Hid (Below s0.heap.size s0 s1) := HB06.out.trans hst1
  have HRS : Hid (Rw s1 gh m 4 (hbF H n2)) := by show Rw s1 gh m 4 _; unfold Rw; rw [hsq1 gh (by omega)]; exact HR6.out
  clear hst1 hsq1 HGH HLv HB06 HB16 HR6 HRH HLt1 HBl1 HS1 HLt0 HBl0 HSr kg1 kh1 LARG1 hnil
  have HMK : Hid _ := hmk
  clear hmk
  go_wp2
  go_loopw [12, 11] (fun iv ov wr => ∃ i : Nat, i ≤ m ∧ iv = .int .i64 i ∧ ov = .bool true ∧ Rw wr gh m 4 (doneF H n2 i) ∧ Same gh s1 wr ∧ Below s0.heap.size s0 wr) (fun iv _ _ => m - (intOf iv).toNat)
  case atStart => exact ⟨0, by omega, rfl, rfl, HRS.out.to (fun j _ => doneF_0 H n2 j), fun _ _ => rfl, HB1.out⟩
  case round =>
    obtain ⟨i, hi, rfl, rfl, hRi, hSa, hBi⟩ := hrel
    have HRI : Hid (Rw wr gh m 4 (doneF H n2 i)) := hRi
    have HSA : Hid (Same gh s1 wr) := hSa
    have HBI : Hid (Below s0.heap.size s0 wr) := hBi
    have HTI : Hid (St W0 B xt n v X TV wr) := HS0.out.below hBi
    clear hRi hSa hBi
    by_cases hlt : i < m
    · have hlm : (i : Int) < ((n2 : Int) + 8) := by have := HMI.out; omega
      have hlm2 : (i : Int) < (m : Int) := by omega
      have hi0' : (0 : Int) ≤ (i : Int) := by omega
      have c1 : wr.cell? ⟨gh, i, none⟩ = some (hbF H n2 i) := by rw [HRI.out.cell i hlt, doneF_at]
      have c2 : wr.cell? ⟨xt, 3, none⟩ = some (.slice (some ad) n2 c2) := by rw [cell_of_row _ _ _ _ 34 _ HTI.out.tv, HTV.out]; rfl
      by_cases hin : i < n2
      · obtain ⟨b2, o2, ha, _, hc⟩ := (HA2.out _ HTI.out.bel).cells.at (by omega)
        simp only [Option.some.injEq] at ha
        have c3 : wr.cell? ⟨b2, o2 + i, none⟩ = some (.bool (H i)) := hc i hin
        have e1 : hbF H n2 i = .bool (H i) := by simp [hbF, hin]
        rw [e1] at c1
        rw [ha] at c2
        clear hc
        have hinI : (i : Int) < (n2 : Int) := by omega
        cases hHi : H i with
        | true =>
          rw [hHi] at c1 c3
          have f1 := HRI.out.free i
          go_wp2
          go_quiet (fail)
          go_wp2
          go_roundw
          case rel => exact ⟨i + 1, by omega, by go_num, rfl, ((HRI.out.drewN nq).put i _).to (fun j _ => doneF_step H n2 i j), (fun q hq => (heap_setCell_other _ ⟨gh, i, none⟩ q _ hq).trans (HSA.out q hq)), (below_drewN HBI.out nq).setCell hs0r _⟩
          case measure => simp [intOf]; omega
        | false =>
          rw [hHi] at c1 c3
          have f1 := HRI.out.free i
          go_wp2
          go_quiet (fail)
          go_wp2
          go_roundw
          case rel => exact ⟨i + 1, by omega, by go_num, rfl, ((HRI.out.drewN nq).put i _).to (fun j _ => doneF_step H n2 i j), (fun q hq => (heap_setCell_other _ ⟨gh, i, none⟩ q _ hq).trans (HSA.out q hq)), (below_drewN HBI.out nq).setCell hs0r _⟩
          case measure => simp [intOf]; omega
      · have hinI : decide ((i : Int) < (n2 : Int)) = false := by simp; omega
        have e1 : hbF H n2 i = .bool false := by simp [hbF, hin]
        rw [e1] at c1
        have f1 := HRI.out.free i
        go_wp2
        go_quiet (fail)
        go_wp2
        go_roundw
        case rel => exact ⟨i + 1, by omega, by go_num, rfl, ((HRI.out.drewN nq).put i _).to (fun j _ => doneF_step H n2 i j), (fun q hq => (heap_setCell_other _ ⟨gh, i, none⟩ q _ hq).trans (HSA.out q hq)), (below_drewN HBI.out nq).setCell hs0r _⟩
        case measure => simp [intOf]; omega
    · have e : i = m := by omega
      have hlm : ((n2 : Int) + 8) ≤ (i : Int) := by have := HMI.out; omega
      have HGI : Hid (GoHalf o s0.heap.size x y wr) := (HGS.out.same (fun q hq => HSA.out q (by omega))).mono hs05
      have i0 : wr.cell? ⟨xt, 0, none⟩ = some (.int .i64 K) := by rw [cell_of_row _ _ _ _ 34 _ HTI.out.tv, HTV.out]; rfl
      have i1 : wr.cell? ⟨xt, 1, none⟩ = some (.int .i64 M) := by rw [cell_of_row _ _ _ _ 34 _ HTI.out.tv, HTV.out]; rfl
      have i2 : wr.cell? ⟨xt, 2, none⟩ = some (.slice a1 n1 c1) := by rw [cell_of_row _ _ _ _ 34 _ HTI.out.tv, HTV.out]; rfl
      have i3 : wr.cell? ⟨xt, 3, none⟩ = some (.slice (some ad) n2 c2) := by rw [cell_of_row _ _ _ _ 34 _ HTI.out.tv, HTV.out]; rfl
      go_wp2_with fail
      refine Calls.mono (HR.out wr (HA1.out _ HTI.out.bel).cells (HA2.out _ HTI.out.bel).cells) ?_
      rintro e s2 ⟨x2, y2, rfl, hO2⟩
      have HL2 : Hid (LOut o s0.heap.size x y x2 y2 s2) := LOut.of HGI.out hO2
      have HB2 : Hid (Below s0.heap.size s0 s2) := HBI.out.trans (hO2.bel.mono HBI.out.size)
      clear hO2 HGI HTI i0 i1 i2 i3 HRI HSA HBI
      go_wp2_with fail
      refine (same_out o _ x y x2 y2 s2 HSM.out HL2.out).mono ?_
      rintro e s3 ⟨rfl, q3, hq3⟩
      have HL3 : Hid (LOut o s0.heap.size x y x2 y2 s3) := HL2.out.below (below_q hq3)
      have HB3 : Hid (Below s0.heap.size s0 s3) := HB2.out.trans ((below_q hq3).mono HB2.out.size)
      clear hq3 HL2 HB2
      go_wp2_with fail
      refine (told_out o _ x y x2 y2 s3 (HG.out _ (HS0.out.below HB3.out).bel) HL3.out).mono ?_
      rintro e s4 ⟨rfl, hb4⟩
      have HL4 : Hid (LOut o s0.heap.size x y x2 y2 s4) := HL3.out.below hb4
      have HB4 : Hid (Below s0.heap.size s0 s4) := HB3.out.trans (hb4.mono HB3.out.size)
      clear hb4 HL3 HB3
      have HT4 : Hid (St W0 B xt n v X TV s4) := HS0.out.below HB4.out
      go_wp2_with fail
      refine (keep_out o X B n W0.heap.size v x y x2 y2 s0 s4 HSM.out HBB.out HS0.out.bel.size HB4.out.size HT4.out.bk hn hXl HT4.out.own (Kp.below HB4.out) HL4.out).mono ?_
      rintro e s5 ⟨rfl, v', z, k1, k2, k3, k4, k5⟩
      have HF : Hid (Kept W0 B n X s5) := ⟨v', z, k1, k2, fun e he => by
        rcases List.mem_append.1 he with h | h
        · exact (HS0.out.ok e h).kp k4
        · rw [List.mem_singleton.1 h]; exact k3, HT4.out.bel.trans k5⟩
      clear k1 k2 k3 k4 k5 HT4 HL4 HB4
      go_wp2
      go_ret
      exact ⟨rfl, HF.out⟩
theorem restore_none (o : Out) (L : Nat → ByteArray) (H : Nat → Bool) (X : List En) (B n : Nat) (v : Value) (K M : Int) (a1 : Option Addr) (n1 c1 : Nat)  (W0 w : World) (hs : o.small)
    (hP : ∀ W v vb, Lv W v n1 L → Lb W vb 0 H → RGo o K M v vb W) (hR : ∀ W, In W a1 n1 L → InB W none 0 H → RRef o K M (.slice a1 n1 c1) (.slice none 0 0) W)
    (hG : W0.cell? ⟨0, 0, none⟩ = some (.iface 128 (.agg #[.pointer (some ⟨1, 40, none⟩)]))) (hA1 : Arg W0 a1 n1 c1 L) (hA2 : ArgB W0 none 0 0 H) (hbel : Below W0.heap.size W0 w) (hbB : W0.heap.size ≤ B) (hn : n ≤ 1000000000) (hXl : X.length ≤ 1000000000)
    (hB : w.heap[B]? = some (.cells #[.int .i64 n, v, .slice none 0 0, .slice none 0 0, .slice none 0 0] 29 (0, 0))) (hv : w.ownsRow W0.heap.size 54 5 v X.length (flat X)) (hX : ∀ e ∈ X, e.ok w) :
    Calls Tryd.prog 5 #[.pointer (some ⟨B, 0, none⟩), .agg #[.int .i64 K, .int .i64 M, .slice a1 n1 c1, .slice none 0 0]] w fun e w' => e = .returned (.bool true) ∧ Kept W0 B n X w' := by
  have hq2 := hA2.size
  obtain ⟨m, hm, hmk⟩ : ∃ m, m = 0 + 8 ∧ ∀ W : World, (Instr.makeSlice 32 (.int .i64 (8 : Int)) (.int .i64 (8 : Int))).run Tryd.prog W = .ok (.slice (some ⟨W.heap.size, 0, none⟩) m m) (W.alloc (.cells (madeCells #[.bool false] m) 4)) := by
    refine ⟨0 + 8, rfl, fun W => ?_⟩
    rw [show (8 : Int) = ((0 + 8 : Nat) : Int) by omega]
    exact run_make_row' (P := Tryd.prog) 32 4 (.bool false) 1 Tryd.underlying32 info4 rfl .i64 .i64 (0 + 8) (by omega) (by omega) W
  have hmb : m ≤ 1048584 := by omega
  have hnm : (0 : Nat) ≤ m := by omega
  have HMI : Hid ((8 : Int) = (m : Int)) := by show (8 : Int) = (m : Int); omega
  clear hm
  go_enter Tryd.func5, Tryd.ntmps5
  go_wp2_with fail
  obtain ⟨TV, hTV⟩ : ∃ TV : Array Value, TV = #[.int .i64 K, .int .i64 M, .slice a1 n1 c1, .slice none 0 0] := ⟨_, rfl⟩
  obtain ⟨s0, hs0⟩ : ∃ s0, s0 = w.alloc (Obj.cells #[Value.int IntKind.i64 K, Value.int IntKind.i64 M, Value.slice a1 n1 c1, Value.slice none 0 0] 34) := ⟨_, rfl⟩
  have HS0 : Hid (St W0 B w.heap.size n v X TV s0) := by
    have hb : Below w.heap.size w s0 := by rw [hs0]; exact (Below.refl _ _).alloc (Nat.le_refl _) _
    refine ⟨?_, ?_, own_below hv hb, fun e he => (hX e he).kp (Kp.below hb), hbel.trans (hb.mono hbel.size)⟩
    · rw [hs0, hTV]; exact heap_alloc_new _ _
    · rw [hb.block B (Array.getElem?_eq_some_iff.1 hB).1]; exact hB
  rw [← hs0]
  have n1b := hA1.size
  have HTV : Hid _ := hTV
  have HG : Hid (∀ W, Below W0.heap.size W0 W → W.cell? ⟨0, 0, none⟩ = some (.iface 128 (.agg #[.pointer (some ⟨1, 40, none⟩)]))) := fun W h => (h.cell (p := ⟨0, 0, none⟩) (block_lt_of_cell hG)).trans hG
  have HA1 : Hid (∀ W, Below W0.heap.size W0 W → Arg W a1 n1 c1 L) := fun W h => hA1.below h
  have HA2 : Hid (∀ W, Below W0.heap.size W0 W → ArgB W none 0 0 H) := fun W h => hA2.below h
  have HP : Hid _ := hP
  have HR : Hid _ := hR
  have HSM : Hid _ := hs
  have HBB : Hid _ := hbB
  have hbw : W0.heap.size ≤ w.heap.size := hbel.size
  clear hs0 hG hA1 hA2 hB hv hX hTV hbel hP hR hs
  obtain ⟨xt, hxt⟩ : ∃ xt, xt = w.heap.size := ⟨_, rfl⟩
  rw [← hxt] at HS0 ⊢
  have HXT : Hid _ := hxt
  clear hxt
  have LARG1 : Hid _ := HA1.out _ HS0.out.bel
  refine (lent_any L a1 n1 c1 s0 (by omega) LARG1.out.cells).mono ?_
  rintro e r0 ⟨g1, h1, rfl, kg1, kh1, hLt0, hbl0⟩
  have HLt0 : Hid (LentAt r0 s0.heap.size g1 h1 n1 a1.isNone L) := hLt0
  have HBl0 : Hid (Below s0.heap.size s0 r0) := hbl0
  have HSr : Hid (St W0 B xt n v X TV r0) := HS0.out.below hbl0
  clear hLt0 hbl0
  have i3 : r0.cell? ⟨xt, 3, none⟩ = some (.slice none 0 0) := by rw [cell_of_row _ _ _ _ 34 _ HSr.out.tv, HTV.out]; rfl
  have i3' : (r0.alloc (.cells (madeCells #[.bool false] m) 4)).cell? ⟨xt, 3, none⟩ = some (.slice none 0 0) := (World.cell?_of_block (a := ⟨xt, 3, none⟩) (Below.heap_alloc _ _ _ (block_lt_of_cell i3))).trans i3
  obtain ⟨r1, hcp, hR1, hB1⟩ := copy_bools H none 0 0 m r0 hnm (HA2.out _ HSr.out.bel).cells
  have HRH : Hid (Rw r1 r0.heap.size m 4 (hbF H 0)) := hR1
  have HLt1 : Hid (LentAt r1 s0.heap.size g1 h1 n1 a1.isNone L) := HLt0.out.below hB1
  have HBl1 : Hid (Below s0.heap.size s0 r1) := HBl0.out.trans (hB1.mono HBl0.out.size)
  have HS1 : Hid (St W0 B xt n v X TV r1) := HSr.out.below hB1
  have j3 : r1.cell? ⟨xt, 3, none⟩ = some (.slice none 0 0) := by rw [cell_of_row _ _ _ _ 34 _ HS1.out.tv, HTV.out]; rfl
  have hg01 : g1 < r0.heap.size := HLt0.out.all.lt
  have hs0r : s0.heap.size ≤ r0.heap.size := HBl0.out.size
  obtain ⟨gh, hgh⟩ : ∃ gh, gh = r0.heap.size := ⟨_, rfl⟩
  have HGH0 : Hid _ := hgh
  rw [← hgh] at HRH hg01 hs0r
  clear hgh hR1 hB1
  have hnmI : (0 : Int) ≤ (m : Int) := by omega
  have hnil := eqlB_none
  go_wp2
  rw [← HGH0.out]
  have i0 : r1.cell? ⟨xt, 0, none⟩ = some (.int .i64 K) := by rw [cell_of_row _ _ _ _ 34 _ HS1.out.tv, HTV.out]; rfl
  have i1 : r1.cell? ⟨xt, 1, none⟩ = some (.int .i64 M) := by rw [cell_of_row _ _ _ _ 34 _ HS1.out.tv, HTV.out]; rfl
  clear i3 i3' j3 hcp
  have HLB : Hid (∀ W, Below r1.heap.size r1 W → Lb W (.slice none 0 0) 0 H) := fun W hW => .inl ⟨rfl, rfl⟩
  go_region_held3 (fun w' => w'.cell? ⟨xt, 0, none⟩ = some (.int .i64 K) ∧ w'.cell? ⟨xt, 1, none⟩ = some (.int .i64 M)) (go_keep) (first | (go_at_call 9; refine (list_any L s0.heap.size g1 h1 n1 a1.isNone _ (by omega) (by first | exact HLt1.out | exact HLt1.out.drew) (isNone_nil LARG1.out.nil)).mono ?_; rintro e r5 ⟨u2, rfl, ⟨q2, hq2⟩, hu2⟩; have j0 : r5.cell? ⟨xt, 0, none⟩ = some (.int .i64 K) := (by rw [hq2]; exact i0); have j1 : r5.cell? ⟨xt, 1, none⟩ = some (.int .i64 M) := (by rw [hq2]; exact i1); have hB5 : Below r1.heap.size r1 r5 := (by rw [hq2]; exact below_drewN (Below.refl _ _).drew _); have hL5 : LentAt r5 s0.heap.size g1 h1 n1 a1.isNone L := HLt1.out.below hB5; have hU5 : Lv r5 u2 n1 L := list_lv hL5 hu2; clear hq2 hu2) | (go_at_call 15; refine Calls.mono (HP.out _ _ _ hU5 (HLB.out _ hB5)) ?_; rintro e r6 ⟨x, y, rfl, hO6⟩; have hb6 := hO6.bel; have k0 : r6.cell? ⟨xt, 0, none⟩ = some (.int .i64 K) := (hb6.cell (p := ⟨xt, 0, none⟩) (block_lt_of_cell j0)).trans j0; have k1 : r6.cell? ⟨xt, 1, none⟩ = some (.int .i64 M) := (hb6.cell (p := ⟨xt, 1, none⟩) (block_lt_of_cell j1)).trans j1))
  have HLv : Hid (LentAt r6 s0.heap.size g1 h1 n1 a1.isNone L) := hL5.below hb6
  have HGH : Hid (GoHalf o r5.heap.size x y r6) := hO6.half
  have hgr1 : gh < r1.heap.size := HRH.out.lt
  have hgr5 : gh < r5.heap.size := Nat.lt_of_lt_of_le hgr1 hB5.size
  have hs05 : s0.heap.size ≤ r5.heap.size := Nat.le_trans HBl1.out.size hB5.size
  have HB16 : Hid (Below r1.heap.size r1 r6) := hB5.trans (hb6.mono hB5.size)
  have HB06 : Hid (Below s0.heap.size s0 r6) := HBl1.out.trans (HB16.out.mono HBl1.out.size)
  have HR6 : Hid (Rw r6 gh m 4 (hbF H 0)) := HRH.out.below HB16.out hgr1
  clear hO6 hU5 hL5 hB5 hb6 j0 j1 k0 k1 i0 i1 HLB
  go_wp2_with fail
  refine (still_any L s0.heap.size g1 h1 n1 s0.heap.size a1.isNone r6 (by omega) HLv.out (Nat.le_of_lt kg1) (Nat.ne_of_lt kg1)).mono ?_
  rintro e s1 ⟨rfl, hst1, hsq1⟩
  have HGS : Hid (GoHalf o r5.heap.size x y s1) := HGH.out.same (fun q hq => hsq1 q (by omega))
  have HB1 : Hid (Below s0.heap.size s0 s1) := HB06.out.trans hst1
  have HRS : Hid (Rw s1 gh m 4 (hbF H 0)) := by show Rw s1 gh m 4 _; unfold Rw; rw [hsq1 gh (by omega)]; exact HR6.out
  clear hst1 hsq1 HGH HLv HB06 HB16 HR6 HRH HLt1 HBl1 HS1 HLt0 HBl0 HSr kg1 kh1 LARG1 hnil
  have HMK : Hid _ := hmk
  clear hmk
  go_wp2
  go_loopw [12, 11] (fun iv ov wr => ∃ i : Nat, i ≤ m ∧ iv = .int .i64 i ∧ ov = .bool true ∧ Rw wr gh m 4 (doneF H 0 i) ∧ Same gh s1 wr ∧ Below s0.heap.size s0 wr) (fun iv _ _ => m - (intOf iv).toNat)
  case atStart => exact ⟨0, by omega, rfl, rfl, HRS.out.to (fun j _ => doneF_0 H 0 j), fun _ _ => rfl, HB1.out⟩
  case round =>
    obtain ⟨i, hi, rfl, rfl, hRi, hSa, hBi⟩ := hrel
    have HRI : Hid (Rw wr gh m 4 (doneF H 0 i)) := hRi
    have HSA : Hid (Same gh s1 wr) := hSa
    have HBI : Hid (Below s0.heap.size s0 wr) := hBi
    have HTI : Hid (St W0 B xt n v X TV wr) := HS0.out.below hBi
    clear hRi hSa hBi
    by_cases hlt : i < m
    · have hlm : (i : Int) < (8 : Int) := by have := HMI.out; omega
      have hlm2 : (i : Int) < (m : Int) := by omega
      have hi0' : (0 : Int) ≤ (i : Int) := by omega
      have c1 : wr.cell? ⟨gh, i, none⟩ = some (hbF H 0 i) := by rw [HRI.out.cell i hlt, doneF_at]
      have c2 : wr.cell? ⟨xt, 3, none⟩ = some (.slice none 0 0) := by rw [cell_of_row _ _ _ _ 34 _ HTI.out.tv, HTV.out]; rfl
      have hin : decide ((i : Int) < 0) = false := by simp
      have e1 : hbF H 0 i = .bool false := by simp [hbF]
      rw [e1] at c1
      have f1 := HRI.out.free i
      go_wp2
      go_quiet (fail)
      go_wp2
      go_roundw
      case rel => exact ⟨i + 1, by omega, by go_num, rfl, ((HRI.out.drewN nq).put i _).to (fun j _ => doneF_step H 0 i j), (fun q hq => (heap_setCell_other _ ⟨gh, i, none⟩ q _ hq).trans (HSA.out q hq)), (below_drewN HBI.out nq).setCell hs0r _⟩
      case measure => simp [intOf]; omega
    · have e : i = m := by omega
      have hlm : (8 : Int) ≤ (i : Int) := by have := HMI.out; omega
      have HGI : Hid (GoHalf o s0.heap.size x y wr) := (HGS.out.same (fun q hq => HSA.out q (by omega))).mono hs05
      have i0 : wr.cell? ⟨xt, 0, none⟩ = some (.int .i64 K) := by rw [cell_of_row _ _ _ _ 34 _ HTI.out.tv, HTV.out]; rfl
      have i1 : wr.cell? ⟨xt, 1, none⟩ = some (.int .i64 M) := by rw [cell_of_row _ _ _ _ 34 _ HTI.out.tv, HTV.out]; rfl
      have i2 : wr.cell? ⟨xt, 2, none⟩ = some (.slice a1 n1 c1) := by rw [cell_of_row _ _ _ _ 34 _ HTI.out.tv, HTV.out]; rfl
      have i3 : wr.cell? ⟨xt, 3, none⟩ = some (.slice none 0 0) := by rw [cell_of_row _ _ _ _ 34 _ HTI.out.tv, HTV.out]; rfl
      go_wp2_with fail
      refine Calls.mono (HR.out wr (HA1.out _ HTI.out.bel).cells (HA2.out _ HTI.out.bel).cells) ?_
      rintro e s2 ⟨x2, y2, rfl, hO2⟩
      have HL2 : Hid (LOut o s0.heap.size x y x2 y2 s2) := LOut.of HGI.out hO2
      have HB2 : Hid (Below s0.heap.size s0 s2) := HBI.out.trans (hO2.bel.mono HBI.out.size)
      clear hO2 HGI HTI i0 i1 i2 i3 HRI HSA HBI
      go_wp2_with fail
      refine (same_out o _ x y x2 y2 s2 HSM.out HL2.out).mono ?_
      rintro e s3 ⟨rfl, q3, hq3⟩
      have HL3 : Hid (LOut o s0.heap.size x y x2 y2 s3) := HL2.out.below (below_q hq3)
      have HB3 : Hid (Below s0.heap.size s0 s3) := HB2.out.trans ((below_q hq3).mono HB2.out.size)
      clear hq3 HL2 HB2
      go_wp2_with fail
      refine (told_out o _ x y x2 y2 s3 (HG.out _ (HS0.out.below HB3.out).bel) HL3.out).mono ?_
      rintro e s4 ⟨rfl, hb4⟩
      have HL4 : Hid (LOut o s0.heap.size x y x2 y2 s4) := HL3.out.below hb4
      have HB4 : Hid (Below s0.heap.size s0 s4) := HB3.out.trans (hb4.mono HB3.out.size)
      clear hb4 HL3 HB3
      have HT4 : Hid (St W0 B xt n v X TV s4) := HS0.out.below HB4.out
      go_wp2_with fail
      refine (keep_out o X B n W0.heap.size v x y x2 y2 s0 s4 HSM.out HBB.out HS0.out.bel.size HB4.out.size HT4.out.bk hn hXl HT4.out.own (Kp.below HB4.out) HL4.out).mono ?_
      rintro e s5 ⟨rfl, v', z, k1, k2, k3, k4, k5⟩
      have HF : Hid (Kept W0 B n X s5) := ⟨v', z, k1, k2, fun e he => by
        rcases List.mem_append.1 he with h | h
        · exact (HS0.out.ok e h).kp k4
        · rw [List.mem_singleton.1 h]; exact k3, HT4.out.bel.trans k5⟩
      clear k1 k2 k3 k4 k5 HT4 HL4 HB4
      go_wp2
      go_ret
      exact ⟨rfl, HF.out⟩
end Go.Proofs.YtbjgchlckmecaaaDoor
