/-
  The document's stripe.
-/
import Derived.Test.YtadinjaocnlglaaGreatDoorZ39
import Derived.Test.YtadinjaocnlglaaGreatDoorZ22
namespace Go.Proofs.YtadinjaocnlglaaGreatDoor
open Go.RowKit
set_option maxRecDepth 100000
set_option maxHeartbeats 8000000
def StD (kt : Nat → Int) (T : TT) (bl : Nat → ByteArray) (s : Nat) (w : World) (e : Ending) (w' : World) : Prop := ∃ o, e = .returned (.tuple #[.int .i64 (stF kt T bl s : Nat), o]) ∧ Below w.heap.size w w' ∧ ((stF kt T bl s = 0 ∧ w'.ownsRow w.heap.size 9 1 o T.n (tV (stM kt T bl s) T.n)) ∨ (stF kt T bl s ≠ 0 ∧ o = .slice none 0 0))
structure SI (kt : Nat → Int) (n b1 b2 : Nat) (S : Nat → ByteArray) (h : Nat → Bool) (w : World) (i : Nat) (wr : World) : Prop where
 r1 : Rw wr b1 n 9 (part' i (tI S) (.string ⟨#[]⟩))
 r2 : Rw wr b2 n 4 (part' i (bI h) (.bool false))
 lo1 : w.heap.size ≤ b1
 lo2 : w.heap.size ≤ b2
 bel : Below w.heap.size w wr
theorem SI.low {kt : Nat → Int} {n b1 b2 : Nat} {S : Nat → ByteArray} {h : Nat → Bool} {w : World} {i : Nat} {wr w' : World} (H : SI kt n b1 b2 S h w i wr) (hb : Below wr.heap.size wr w') : SI kt n b1 b2 S h w i w' :=
 ⟨(hb.block b1 H.r1.lt).trans H.r1, (hb.block b2 H.r2.lt).trans H.r2, H.lo1, H.lo2, H.bel.trans (hb.mono H.bel.size)⟩
theorem SI.put {kt : Nat → Int} {n b1 b2 : Nat} {S : Nat → ByteArray} {h : Nat → Bool} {w : World} {i : Nat} {wr : World} (H : SI kt n b1 b2 S h w i wr) : SI kt n b1 b2 S h w (i + 1) ((wr.setCell ⟨b1, i, none⟩ (.string (S i))).setCell ⟨b2, i, none⟩ (.bool (h i))) := by
 have hne : b1 ≠ b2 := row_ne H.r1 H.r2 (by decide)
 refine ⟨?_, ?_, H.lo1, H.lo2, (H.bel.setCell (p := ⟨b1, i, none⟩) H.lo1 _).setCell (p := ⟨b2, i, none⟩) H.lo2 _⟩
 ·show ((wr.setCell ⟨b1, i, none⟩ (.string (S i))).setCell ⟨b2, i, none⟩ (.bool (h i))).heap[b1]? = _
  rw [set_other _ _ _ _ _ hne]
  exact (H.r1.put i _).to (fun j _ => by rw [← part_step]; rfl)
 ·have h2 : Rw (wr.setCell ⟨b1, i, none⟩ (.string (S i))) b2 n 4 (part' i (bI h) (.bool false)) := by
   show (wr.setCell ⟨b1, i, none⟩ (.string (S i))).heap[b2]? = _
   rw [set_other _ _ _ _ _ hne.symm]
   exact H.r2
  exact (h2.put i _).to (fun j _ => by rw [← part_step]; rfl)
theorem frg_congr {kt : Nat → Int} {K M C : Nat} {lv : ByteArray} {s len : Nat} {S : Nat → ByteArray} {h : Nat → Bool} {A A' : Nat → ByteArray} (hA : ∀ i, i < K + M → A i = A' i) (hK : K ≤ K + M) : frg kt K M C lv s len S h A = frg kt K M C lv s len S h A' := by
 have h1 : (∀ i, i < K + M → okI kt C lv (s * (K + M)) S h A i = true) ↔ ∀ i, i < K + M → okI kt C lv (s * (K + M)) S h A' i = true := by
  constructor
  ·intro hh i hi
   have := hh i hi
   unfold okI at this ⊢
   rw [← hA i hi]
   exact this
  ·intro hh i hi
   have := hh i hi
   unfold okI at this ⊢
   rw [hA i hi]
   exact this
 have h2 : tlT A K C s len = tlT A' K C s len := by
  unfold tlT
  rw [jT_congr (fun i hi => hA i (by omega))]
 unfold frg
 rw [h2]
 by_cases e : ∀ i, i < K + M → okI kt C lv (s * (K + M)) S h A i = true
 ·rw [if_pos e, if_pos (h1.1 e)]
 ·rw [if_neg e, if_neg (fun e2 => e (h1.2 e2))]
theorem tV_congr {L L' : Nat → ByteArray} {n : Nat} (h : ∀ j, j < n → L j = L' j) : tV L n = tV L' n := by
 unfold tV
 apply List.map_congr_left
 intro i hi
 rw [h i (List.mem_range.1 hi)]
theorem rstripe (kt : Nat → Int) (B v : Nat) (vH vU : Value) (hp : List (ByteArray × Nat)) (un : List Nat) (t0 : ByteArray) (s : Nat) (w : World) (H : RB kt B v vH vU hp un w) (hS : RSet kt t0 (hp.map Prod.fst)) (hG : Gr kt w) (hs : s < (tT t0).L.ns) (hl : hp.length ≤ 100000000) :
  Calls Tryz.prog 210 #[.pointer (some ⟨v, 0, none⟩), .int .i64 s] w fun e w' => StD kt (tT t0) (blH (hp.map Prod.fst)) s w e w' := by
 have hT : Told1 (tT t0) := ck_ok (rd_none (hS.rd t0 hS.mem0)).2.1
 have hle : (tT t0).L.es.length ≤ 16 ∧ lenE (tT t0).L.es ≤ 4096 := told_len (RS.on t0)
 obtain ⟨bl, hbl⟩ : ∃ x, blH (hp.map Prod.fst) = x := ⟨_, rfl⟩
 obtain ⟨T, hTe⟩ : ∃ x, tT t0 = x := ⟨_, rfl⟩
 obtain ⟨h0, g0, cH, rfl, hm, c0, c1, hh⟩ := H.top hS
 obtain ⟨d0, d1, d2, d3⟩ := hh.nums
 obtain ⟨aL, cL, d7, hLL⟩ := hh.leaves
 obtain ⟨aE, cE, d5, hoE⟩ := hh.ents
 have HGD0 : Hid (∀ (X : World) (x : Nat), Below w.heap.size w X → x < (tT t0).L.cnt → Calls Tryz.prog 208 #[.pointer (some ⟨v, 0, none⟩), .int .i64 x] X fun e w' => GoD kt t0 (hp.map Prod.fst) x X e w') := fun X x hX hx => rgood kt B v _ vU hp un t0 x X (H.low hX) hS (hG.below hX) hx hl
 unfold GoD at HGD0
 rw [hbl, hTe] at HGD0
 have HSZ : Hid (∀ x, goodB kt (tT t0).L.C (tT t0).lv x (bl x) = true → (bl x).size = (tT t0).L.C) := fun x hx => goodB_size hx
 rw [hbl]
 rw [hTe] at hT hle hs d0 d1 d2 d7 hLL d5 hoE HSZ ⊢
 obtain ⟨m, hme⟩ : ∃ x, hp.length = x := ⟨_, rfl⟩
 rw [hme] at c0 hm
 clear H hS hh hl hbl hTe hme
 obtain ⟨K, hKe⟩ : ∃ x, T.L.K = x := ⟨_, rfl⟩
 obtain ⟨M, hMe⟩ : ∃ x, T.L.M = x := ⟨_, rfl⟩
 obtain ⟨C, hCe⟩ : ∃ x, T.L.C = x := ⟨_, rfl⟩
 obtain ⟨cnt, hcn⟩ : ∃ x, T.L.cnt = x := ⟨_, rfl⟩
 obtain ⟨len, hlen⟩ : ∃ x, lenE T.L.es = x := ⟨_, rfl⟩
 obtain ⟨n, hn⟩ : ∃ x, K + M = x := ⟨_, rfl⟩
 obtain ⟨o, ho⟩ : ∃ x, s * n = x := ⟨_, rfl⟩
 have hTn : T.n = n := by unfold TT.n; rw [hKe, hMe, hn]
 have hns : T.L.ns * n = cnt := by rw [← hcn, ← hn, ← hKe, ← hMe]; rfl
 have hon : o + n ≤ cnt := by rw [← hns, ← ho, ← Nat.succ_mul]; exact Nat.mul_le_mul_right n hs
 have hk1 := hT.k1; have hkm := hT.km; have hc1 := hT.c1; have hc64 := hT.c64; have hcnt := hT.cnt
 rw [hKe] at hk1 hkm d0
 rw [hMe] at hkm d1
 rw [hCe] at hc1 hc64 d2
 rw [hcn] at hcnt d7 hLL HGD0
 obtain ⟨lv, hlve⟩ : ∃ x, T.lv = x := ⟨_, rfl⟩
 rw [hlve] at hLL HGD0 HSZ
 rw [hCe] at HGD0 HSZ
 obtain ⟨gL, rfl, _⟩ := hLL o (by omega)
 obtain ⟨S, hSe⟩ : ∃ S, stS T bl s = S := ⟨_, rfl⟩
 obtain ⟨h, hhe⟩ : ∃ h, stH kt T bl s = h := ⟨_, rfl⟩
 have hSi : ∀ i, bl (o + i) = S i := fun i => by rw [← hSe, ← ho, ← hTn]; rfl
 have hhi : ∀ i, goodB kt C lv (o + i) (S i) = h i := fun i => by rw [← hhe, ← hSi, ← ho, ← hTn, ← hCe, ← hlve]; rfl
 have HGD : Hid (∀ (X : World) (i : Nat), Below w.heap.size w X → i < n → Calls Tryz.prog 208 #[.pointer (some ⟨v, 0, none⟩), .int .i64 ((o : Int) + (i : Int))] X fun e w' => e = .returned (.tuple #[.string (S i), .bool (h i)]) ∧ Below X.heap.size X w') := fun X i hX hi => by
  have h1 := HGD0.out X (o + i) hX (by omega)
  rw [hSi, hhi, show (((o + i : Nat)) : Int) = (o : Int) + (i : Int) by omega] at h1
  exact h1
 have HSS : Hid (∀ i, h i = true → (S i).size = C) := fun i hi => by
  rw [← hSi]
  exact HSZ.out _ (by rw [hSi, hhi]; exact hi)
 have HLV : Hid (∀ (X : World) (i : Nat), Below w.heap.size w X → i < n → X.cell? ⟨gL, o + i, none⟩ = some (.string (pc lv 32 (o + i)))) := fun X i hX hi => by
  obtain ⟨g, e, hc⟩ := hLL (o + i) (by omega)
  cases e
  exact (hX.cell (p := ⟨gL, o + i, none⟩) (block_lt_of_cell hc)).trans hc
 have HV : Hid (∀ X : World, Below w.heap.size w X → X.cell? ⟨v, 0, none⟩ = some (.slice (some ⟨g0, 0, none⟩) m cH) ∧ X.cell? ⟨g0, 0, none⟩ = some (.pointer (some ⟨h0, 0, none⟩)) ∧ X.cell? ⟨h0, 0, none⟩ = some (.int .i64 K) ∧ X.cell? ⟨h0, 1, none⟩ = some (.int .i64 M) ∧ X.cell? ⟨h0, 2, none⟩ = some (.int .i64 C) ∧ X.cell? ⟨h0, 7, none⟩ = some (.slice (some ⟨gL, 0, none⟩) cnt cL)) := fun X hX =>
  ⟨(hX.cell (p := ⟨v, 0, none⟩) (block_lt_of_cell c0)).trans c0, (hX.cell (p := ⟨g0, 0, none⟩) (block_lt_of_cell c1)).trans c1, (hX.cell (p := ⟨h0, 0, none⟩) (block_lt_of_cell d0)).trans d0, (hX.cell (p := ⟨h0, 1, none⟩) (block_lt_of_cell d1)).trans d1, (hX.cell (p := ⟨h0, 2, none⟩) (block_lt_of_cell d2)).trans d2, (hX.cell (p := ⟨h0, 7, none⟩) (block_lt_of_cell d7)).trans d7⟩
 have hm' : (0 : Int) < (m : Int) := by omega
 have hnn : (K : Int) + (M : Int) = (n : Int) := by omega
 have hoo : (s : Int) * (n : Int) = (o : Int) := by rw [← ho]; simp
 have m9 := run_make_row' (P := Tryz.prog) 42 9 (.string ⟨#[]⟩) 16 Tryz.underlying42 info9 rfl .i64 .i64 n (by omega) (by omega)
 have m4 := run_make_row' (P := Tryz.prog) 94 4 (.bool false) 1 Tryz.underlying94 info4 rfl .i64 .i64 n (by omega) (by omega)
 have HHI : Hid _ := hhi
 have HSE : Hid _ := hSe
 have HHE : Hid _ := hhe
 have HHN : Hid (K + M = n) := hn
 have HHO : Hid (s * n = o) := ho
 clear hLL HGD0 HSZ hSi hhi hSe hhe hn ho
 go_enter Tryz.func210, Tryz.ntmps210
 go_wp2_with fail
 go_quiet (fail)
 obtain ⟨X1, hX1⟩ : ∃ X, w.drewN nq = X := ⟨_, rfl⟩
 have hB1 : Below w.heap.size w X1 := by rw [← hX1]; exact below_drewN (Below.refl _ _) nq
 rw [hX1]
 obtain ⟨b1, hb1⟩ : ∃ x, X1.heap.size = x := ⟨_, rfl⟩
 obtain ⟨X2, hX2⟩ : ∃ X, X1.alloc (.cells (madeCells #[.string ⟨#[]⟩] n) 9) = X := ⟨_, rfl⟩
 obtain ⟨b2, hb2⟩ : ∃ x, X2.heap.size = x := ⟨_, rfl⟩
 obtain ⟨X3, hX3⟩ : ∃ X, X2.alloc (.cells (madeCells #[.bool false] n) 4) = X := ⟨_, rfl⟩
 have hB2 : Below X1.heap.size X1 X2 := by rw [← hX2]; exact (Below.refl _ _).alloc (Nat.le_refl _) _
 have hB3 : Below X2.heap.size X2 X3 := by rw [← hX3]; exact (Below.refl _ _).alloc (Nat.le_refl _) _
 have SI0 : Hid (SI kt n b1 b2 S h w 0 X3) := by
  have r1 : Rw X2 b1 n 9 (fun _ => .string ⟨#[]⟩) := by rw [← hX2, ← hb1]; exact Rw.made X1 n 9 (.string ⟨#[]⟩)
  have r2 : Rw X3 b2 n 4 (fun _ => .bool false) := by rw [← hX3, ← hb2]; exact Rw.made X2 n 4 (.bool false)
  refine ⟨Rw.to (show Rw X3 b1 n 9 (fun _ => .string ⟨#[]⟩) from (hB3.block b1 r1.lt).trans r1) (fun j _ => by simp [part']), r2.to (fun j _ => by simp [part']), by rw [← hb1]; exact hB1.size, by rw [← hb2]; exact Nat.le_trans hB1.size hB2.size, (hB1.trans (hB2.mono hB1.size)).trans (hB3.mono (Nat.le_trans hB1.size hB2.size))⟩
 clear hX1 hB1 hB2 hB3
 go_wp2_with fail
 clear hX2 hX3 hb1 hb2 m9 m4
 go_loopw [10, 11, 12] (fun iv _ _ wr => ∃ i : Nat, i ≤ n ∧ iv = .int .i64 i ∧ SI kt n b1 b2 S h w i wr) (fun iv _ _ _ => n - (intOf iv).toNat)
 case atStart => exact ⟨0, Nat.zero_le _, rfl, SI0.out⟩
 case round =>
  obtain ⟨i, hi, rfl, hI⟩ := hrel
  have HI : Hid _ := hI
  by_cases hlt : i < n
  ·have hlt' : (i : Int) < (n : Int) := by omega
   have HGI : Hid _ := HGD.out wr i hI.bel hlt
   obtain ⟨si, hsi⟩ : ∃ x, S i = x := ⟨_, rfl⟩
   obtain ⟨hb, hhb⟩ : ∃ x, h i = x := ⟨_, rfl⟩
   rw [hsi, hhb] at HGI
   clear hI
   go_wp2_with fail
   refine Calls.mono HGI.out ?_
   rintro e w1 ⟨rfl, hbe⟩
   have hI1 := HI.out.low hbe
   have y1 : w1.cell? ⟨b1, i, none⟩ = some (.string ⟨#[]⟩) := by have := hI1.r1.cell i hlt; simpa [part'] using this
   have y2 : w1.frozen? ⟨b1, i, none⟩ = false := hI1.r1.free i
   have y3 : w1.cell? ⟨b2, i, none⟩ = some (.bool false) := by have := hI1.r2.cell i hlt; simpa [part'] using this
   have y4 : w1.frozen? ⟨b2, i, none⟩ = false := hI1.r2.free i
   have hne : b1 ≠ b2 := row_ne hI1.r1 hI1.r2 (by decide)
   have y5 : (w1.setCell ⟨b1, i, none⟩ (.string si)).cell? ⟨b2, i, none⟩ = some (.bool false) := by
    rw [World.cell?_of_block (set_other _ _ _ _ _ hne.symm)]; exact y3
   have y6 : (w1.setCell ⟨b1, i, none⟩ (.string si)).frozen? ⟨b2, i, none⟩ = false := by
    rw [World.frozen?_of_block (set_other _ _ _ _ _ hne.symm)]; exact y4
   have HI2 : Hid (SI kt n b1 b2 S h w (i + 1) ((w1.setCell ⟨b1, i, none⟩ (.string si)).setCell ⟨b2, i, none⟩ (.bool hb))) := by
    have := hI1.put; rw [hsi, hhb] at this; exact this
   clear hI1 hbe hsi hhb hne
   go_wp2_with fail
   go_roundw
   case rel => exact ⟨i + 1, by omega, by go_num, HI2.out⟩
   case measure => simp [intOf]; omega
  ·obtain rfl : n = i := by omega
   have hlt' : ¬ (n : Int) < (n : Int) := by omega
   obtain ⟨v0, v1, v2, v3, v4, v5⟩ := HV.out wr hI.bel
   have hC1 : ∀ j, j < n → wr.cell? ⟨b1, 0 + j, none⟩ = some (.string (S j)) := fun j hj => by
    have := hI.r1.cell j hj
    rw [Nat.zero_add, this]
    simp [part', hj, tI]
   have hC2 : ∀ j, j < n → wr.cell? ⟨b2, 0 + j, none⟩ = some (.bool (h j)) := fun j hj => by
    have := hI.r2.cell j hj
    rw [Nat.zero_add, this]
    simp [part', hj, bI]
   have HCS : Hid (∀ o : Out, ((∃ L : Nat, (hsL h n).length = L ∧ L < K ∧ o = .bad 14 L) ∨ ((knL h K n).length = K ∧ o = .good n (resT S (gt (knL h K n)) K C))) → ∀ X : World, Below wr.heap.size wr X → RRef o K M (.slice (some ⟨b1, 0, none⟩) n n) (.slice (some ⟨b2, 0, none⟩) n n) X) := fun o hc X hX => by
    refine rref_main o S h K M n n b1 0 n b2 0 n C X hk1 hkm HHN.out.symm (by omega) (Nat.le_refl _) (fun j _ hj => HSS.out j hj) ?_ (Nat.lt_of_lt_of_le hI.r1.lt hX.size) (fun j hj => (hX.cell (p := ⟨b1, 0 + j, none⟩) hI.r1.lt).trans (hC1 j hj)) (Nat.lt_of_lt_of_le hI.r2.lt hX.size) (fun j hj => (hX.cell (p := ⟨b2, 0 + j, none⟩) hI.r2.lt).trans (hC2 j hj))
    rcases hc with h1 | ⟨h1, h2⟩
    ·exact .inr (.inl ⟨rfl, h1⟩)
    ·exact .inr (.inr ⟨rfl, h1, h2⟩)
   clear hC1 hC2 hI SI0
   by_cases hsh : Go.Proofs.YtadinjaocnlglaaGreatDoor.cnt h n < K
   ·have HR : Hid _ := HCS.out (.bad 14 ((hsL h n).length : Nat)) (.inl ⟨_, rfl, by rw [hsL_cntJ]; exact hsh, rfl⟩)
    have HF1 : Hid (stF kt T bl s = 1) := fate_1 (by rw [hKe, hMe, HHE.out, HHN.out]; exact hsh)
    clear hsh HCS
    go_wp2_with fail
    go_region_held3 (fun w2 => w2.cell? ⟨h0, 0, none⟩ = some (.int .i64 K) ∧ w2.cell? ⟨h0, 1, none⟩ = some (.int .i64 M)) (first | exact ⟨y2, y3⟩ | exact ⟨v2, v3⟩ | go_keep) ((go_at_call 255; refine Calls.mono (HR.out _ (by first | exact (Below.refl _ _).drew | exact Below.refl _ _)) ?_; rintro e w8 ⟨x, y, rfl, g, c, rfl, rfl, _, _, hb8⟩; have hB8 : Below w.heap.size w w8 := (by first | exact HI.out.bel.trans (hb8.mono HI.out.bel.size) | exact HI.out.bel.drew.trans (hb8.mono HI.out.bel.size)); have y2 : w8.cell? ⟨h0, 0, none⟩ = some (.int .i64 K) := (HV.out w8 hB8).2.2.1; have y3 : w8.cell? ⟨h0, 1, none⟩ = some (.int .i64 M) := (HV.out w8 hB8).2.2.2.1))
    have HB8 : Hid _ := hB8
    clear hb8 hB8 y2 y3 v0 v1 v2 v3 v4 v5
    go_wp2_with fail
    go_ret2
    exact ⟨_, by rw [HF1.out]; rfl, HB8.out, .inr ⟨by rw [HF1.out]; decide, rfl⟩⟩
   ·have hkl : (knL h K n).length = K := by rw [knL_cnt]; omega
    have HR : Hid _ := HCS.out (.good n (resT S (gt (knL h K n)) K C)) (.inr ⟨hkl, rfl⟩)
    have hKc : K ≤ Go.Proofs.YtadinjaocnlglaaGreatDoor.cnt h n := by omega
    obtain ⟨A, hA⟩ : ∃ A, resT S (gt (knL h K n)) K C = A := ⟨_, rfl⟩
    have HAZ : Hid (∀ j, (A j).size = C) := fun j => by rw [← hA]; exact resT_size _ _ _ _ _
    have HST : Hid (∀ j, j < n → stM kt T bl s j = A j) := fun j hj => by
     rw [← hA]
     unfold stM
     rw [HSE.out, HHE.out, hKe, hMe, hCe, ← HHN.out]
     exact md_res (by omega) (by rw [HHN.out]; exact hKc) (fun i _ hi => HSS.out i hi) (by rw [HHN.out]; exact hj)
    have HKC : Hid (T.L.K ≤ Go.Proofs.YtadinjaocnlglaaGreatDoor.cnt (stH kt T bl s) (T.L.K + T.L.M)) := by show _ ≤ _; rw [hKe, hMe, HHE.out, HHN.out]; exact hKc
    have HFR : Hid (frg kt T.L.K T.L.M T.L.C T.lv s (lenE T.L.es) (stS T bl s) (stH kt T bl s) (stM kt T bl s) = frg kt K M C lv s len S h A) := by
     show _ = _
     rw [hKe, hMe, hCe, hlve, hlen, HSE.out, HHE.out]
     exact frg_congr (fun j hj => HST.out j (by rw [← HHN.out]; exact hj)) (by omega)
    have HNO : Hid (∀ j, j < n → ¬ okJ kt K C lv o s len S h A j → stF kt T bl s = 2) := fun j hj hno => fate_2 HKC.out (by rw [HFR.out]; exact frg_yes (i := j) hc1 (fun i _ => HAZ.out i) (by rw [HHN.out]; exact hj) (by rw [HHN.out, HHO.out]; exact hno))
    have HYE : Hid ((∀ j, j < n → okJ kt K C lv o s len S h A j) → stF kt T bl s = 0) := fun hall => fate_0 HKC.out (by rw [HFR.out]; exact frg_no hc1 (fun i _ => HAZ.out i) (fun j hj => by rw [HHN.out, HHO.out]; exact hall j (by rw [← HHN.out]; exact hj)))
    have hKn : K ≤ n := by have := HHN.out; omega
    rw [hA] at HR
    clear hsh HCS hkl hKc hA
    go_wp2_with fail
    go_region_held3 (fun w2 => w2.cell? ⟨h0, 0, none⟩ = some (.int .i64 K) ∧ w2.cell? ⟨h0, 1, none⟩ = some (.int .i64 M)) (first | exact ⟨y2, y3⟩ | exact ⟨v2, v3⟩ | go_keep) ((go_at_call 255; refine Calls.mono (HR.out _ (by first | exact (Below.refl _ _).drew | exact Below.refl _ _)) ?_; rintro e w8 ⟨x, y, rfl, rfl, hox, hb8⟩; have hB8 : Below w.heap.size w w8 := (by first | exact HI.out.bel.trans (hb8.mono HI.out.bel.size) | exact HI.out.bel.drew.trans (hb8.mono HI.out.bel.size)); have hWW : Below wr.heap.size wr w8 := (by first | exact hb8 | exact ((Below.refl _ _).drew).trans hb8); have y2 : w8.cell? ⟨h0, 0, none⟩ = some (.int .i64 K) := (HV.out w8 hB8).2.2.1; have y3 : w8.cell? ⟨h0, 1, none⟩ = some (.int .i64 M) := (HV.out w8 hB8).2.2.2.1))
    have hox' : w8.ownsRow w.heap.size 9 1 x n (tV A n) := own_base hox HI.out.bel.size
    obtain ⟨gO, cO, rfl, hgO, hgl, hCO⟩ := own_row9 hox' (by omega)
    have HOX : Hid _ := hox'
    have hS8 := HI.out.low hWW
    obtain ⟨_, _, z0, z1, z2, z7⟩ := HV.out w8 hB8
    obtain ⟨sk, hsk⟩ : ∃ x, s * K = x := ⟨_, rfl⟩
    obtain ⟨fr, hfr⟩ : ∃ x, sk * C = x := ⟨_, rfl⟩
    have hs512 : s ≤ 512 := by have h1 : s * 1 ≤ s * n := Nat.mul_le_mul_left s (by omega); have h2 := HHO.out; omega
    have hskb : sk ≤ 200000 := by rw [← hsk]; exact Nat.le_trans (Nat.mul_le_mul hs512 (show K ≤ 255 by omega)) (by decide)
    have hfrb : fr ≤ 20000000 := by rw [← hfr]; exact Nat.le_trans (Nat.mul_le_mul hskb hc64) (by decide)
    have HFE : Hid (s * (K * C) = fr) := by show _ = _; rw [← hfr, ← hsk, Nat.mul_assoc]
    have e1 : (s : Int) * (K : Int) = (sk : Int) := by rw [← hsk]; simp
    have e2 : (sk : Int) * (C : Int) = (fr : Int) := by rw [← hfr]; simp
    clear hsk hfr hs512
    clear hb8 hox hox' y2 y3 v0 v1 v2 v3 v4 v5
    have HB8 : Hid (Below w.heap.size w w8) := hB8
    have HS8 : Hid _ := hS8
    have HCO : Hid (Cl w8 gO n (tI A)) := hCO
    clear hB8 hWW hS8 hCO
    go_wp2_with fail
    go_quiet (fail)
    obtain ⟨Y, hY⟩ : ∃ X, w8.drewN nq = X := ⟨_, rfl⟩
    have hBY : Below w8.heap.size w8 Y := by rw [← hY]; exact below_drewN (Below.refl _ _) nq
    have HBY : Hid (Below w.heap.size w Y) := HB8.out.trans (hBY.mono HB8.out.size)
    have HSY : Hid _ := HS8.out.low hBY
    have HOY : Hid (Y.ownsRow w.heap.size 9 1 (.slice (some ⟨gO, 0, none⟩) n cO) n (tV A n)) := own_kept HOX.out (fun q hq => hBY.block q (own_lt HOX.out q hq))
    have HCY : Hid (∀ j, j < n → Y.cell? ⟨gO, j, none⟩ = some (.string (A j))) := fun j hj => (hBY.cell (p := ⟨gO, j, none⟩) hgl).trans (HCO.out j hj)
    have hgY : gO < Y.heap.size := Nat.lt_of_lt_of_le hgl hBY.size
    have z5 : Y.cell? ⟨h0, 5, none⟩ = some (.slice aE T.L.es.length cE) := (HBY.out.cell (p := ⟨h0, 5, none⟩) (block_lt_of_cell d5)).trans d5
    have HAM : Hid _ := ramount B T.L.es.length cE aE T.L.es Y rfl (own_kept hoE (fun q hq => HBY.out.block q (own_lt hoE q hq))) (fun i => Nat.le_trans (lenE_take_le _ _) (by have := hle.2; omega)) (by have := hle.1; omega)
    rw [hlen] at HAM
    rw [hY]
    clear hY z0 z1 z2 z7 HOX HS8 HCO HB8 hBY
    go_wp2_with fail
    refine Calls.mono HAM.out ?_
    rintro e w9 ⟨rfl, rfl⟩
    go_wp2_with fail
    clear z5 HAM
    have HRW : Hid (∀ X : World, Below w9.heap.size w9 X → Below w.heap.size w X) := fun X hX => HBY.out.trans (hX.mono HBY.out.size)
    obtain ⟨Y, hY⟩ : ∃ Y, w9 = Y := ⟨_, rfl⟩
    subst hY
    go_loopw [17, 18] (fun iv _ wr => ∃ i : Nat, i ≤ n ∧ iv = .int .i64 i ∧ (∀ j, j < i → okJ kt K C lv o s len S h A j) ∧ Below w9.heap.size w9 wr) (fun iv _ _ => n - (intOf iv).toNat)
    case atStart => exact ⟨0, Nat.zero_le _, rfl, fun j hj => by omega, Below.refl _ _⟩
    case round =>
     obtain ⟨i, hi, rfl, hE, hBw⟩ := hrel
     have HE : Hid (∀ j, j < i → okJ kt K C lv o s len S h A j) := hE
     have HBW : Hid (Below w9.heap.size w9 wr) := hBw
     clear hE hBw
     by_cases hlt : i < n
     ·have hlt' : (i : Int) < (n : Int) := by omega
      obtain ⟨ai, hai⟩ : ∃ x, A i = x := ⟨_, rfl⟩
      obtain ⟨si, hsi⟩ : ∃ x, S i = x := ⟨_, rfl⟩
      obtain ⟨hb, hhb⟩ : ∃ x, h i = x := ⟨_, rfl⟩
      obtain ⟨oi, hoi⟩ : ∃ x, o + i = x := ⟨_, rfl⟩
      obtain ⟨lf, hlf⟩ : ∃ x, pc lv 32 (o + i) = x := ⟨_, rfl⟩
      obtain ⟨z, hz⟩ : ∃ z : ByteArray, ⟨#[0]⟩ ++ ai = z := ⟨_, rfl⟩
      obtain ⟨d, hd⟩ : ∃ x, ofT kt z = x := ⟨_, rfl⟩
      have hais : ai.size = C := by rw [← hai]; exact HAZ.out i
      have HOK : Hid (okJ kt K C lv o s len S h A i ↔ d = lf ∧ (hb = true → ai = si) ∧ (i < K → ∀ k, k < C → len ≤ fr + i * C + k → ai.data.toList.getD k 0 = 0)) := by
       show _ ↔ _
       unfold okJ
       rw [leafT_of, hai, hz, hd, hlf, hhb, hsi, HFE.out]
      have HLF : Hid (∀ X : World, Calls Tryz.prog 88 #[.string ai] X fun e w' => e = .returned (.string z) ∧ w' = X) := fun X => by rw [← hz]; exact rleaf_any ai X (by omega)
      have HDG : Hid (∀ X : World, Below w9.heap.size w9 X → Calls Tryz.prog 192 #[.string z] X fun e w' => e = .returned (.string d) ∧ Below X.heap.size X w') := fun X hX => by
       rw [← hd]
       exact rdigest_any kt z X (by rw [← hz, ByteArray.size_append]; show 1 + ai.size ≤ _; omega) (hG.below (HRW.out X hX))
      have HC : Hid (∀ w2 : World, Below w9.heap.size w9 w2 → w2.cell? ⟨gO, i, none⟩ = some (.string ai) ∧ w2.cell? ⟨b1, i, none⟩ = some (.string si) ∧ w2.cell? ⟨b2, i, none⟩ = some (.bool hb) ∧ w2.cell? ⟨h0, 7, none⟩ = some (.slice (some ⟨gL, 0, none⟩) cnt cL) ∧ w2.cell? ⟨gL, oi, none⟩ = some (.string lf)) := fun X hX => by
       have q1 := HCY.out i hlt
       rw [hai] at q1
       have q2 : w9.cell? ⟨b1, i, none⟩ = some (.string si) := by have := HSY.out.r1.cell i hlt; rw [this]; simp [part', hlt, tI, hsi]
       have q3 : w9.cell? ⟨b2, i, none⟩ = some (.bool hb) := by have := HSY.out.r2.cell i hlt; rw [this]; simp [part', hlt, bI, hhb]
       have q5 := HLV.out X i (HRW.out X hX) hlt
       rw [hlf, hoi] at q5
       exact ⟨(hX.cell (p := ⟨gO, i, none⟩) hgY).trans q1, (hX.cell (p := ⟨b1, i, none⟩) HSY.out.r1.lt).trans q2, (hX.cell (p := ⟨b2, i, none⟩) HSY.out.r2.lt).trans q3, (HV.out X (HRW.out X hX)).2.2.2.2.2, q5⟩
      have hoi' : (oi : Int) < (cnt : Int) := by omega
      have hoi0 : (0 : Int) ≤ (oi : Int) := by omega
      have u1 : IntKind.i64.wrap (o : Int) = (o : Int) := by rw [IntKind.wrap_i64]; omega
      have u2 : IntKind.i64.wrap ((o : Int) + (i : Int)) = (oi : Int) := by rw [IntKind.wrap_i64]; omega
      have HOI : Hid (o + i = oi) := hoi
      clear hoi
      obtain ⟨v0, v1, v2, v3, v4⟩ := HC.out wr HBW.out
      clear hai hsi hhb hlf hz hd
      by_cases hdl : d = lf
      ·have q1 : (d.toList == lf.toList) = true := texts_eq hdl
       cases hb with
       | true =>
        by_cases hss : ai = si
        ·have q2 : (ai.toList == si.toList) = true := texts_eq hss
         have HSI : Hid (true = true → ai = si) := fun _ => hss
         have HDL : Hid (d = lf) := hdl
         clear hss hdl
         go_wp2_with fail
         refine wp_region_held_drew (S := fun w2 => w2.cell? ⟨gO, i, none⟩ = some (.string ai) ∧ w2.cell? ⟨b1, i, none⟩ = some (.string si) ∧ w2.cell? ⟨b2, i, none⟩ = some (.bool true) ∧ w2.cell? ⟨h0, 7, none⟩ = some (.slice (some ⟨gL, 0, none⟩) cnt cL) ∧ w2.cell? ⟨gL, oi, none⟩ = some (.string lf)) (by kernel_rfl) (by exact ⟨v0, v1, v2, v3, v4⟩) (fun hHeld => ?_)
         refine wpAnyH_take (i := 0) (oi := Oper.mk (some 105) _ _ _ _ _) (v := ?vc0) rfl (by kernel_rfl) (by kernel_rfl) (by kernel_rfl) (fun _ _ _ h => h) (Or.inl ⟨by rfl, ?hyc0⟩) (by assumption) ?restc0
         case hyc0 => (intro X hX; (try dsimp only at hX); go_simp; try with_reducible rfl)
         try go_frame
         refine wpAnyH_take (i := 1) (oi := Oper.mk (some 106) _ _ _ _ _) (v := ?vc1) rfl (by kernel_rfl) (by kernel_rfl) (by kernel_rfl) (fun _ _ _ h => h) (Or.inl ⟨by rfl, ?hyc1⟩) (by assumption) ?restc1
         case hyc1 => (intro X hX; (try dsimp only at hX); go_simp; try with_reducible rfl)
         try go_frame
         refine wpAnyH_take (i := 2) (oi := Oper.mk (some 107) _ _ _ _ _) (v := ?vc2) rfl (by kernel_rfl) (by kernel_rfl) (by kernel_rfl) (fun _ _ _ h => h) (Or.inl ⟨by rfl, ?hyc2⟩) (by assumption) ?restc2
         case hyc2 => (intro X hX; (try dsimp only at hX); go_simp; try with_reducible rfl)
         try go_frame
         refine wpAnyH_take (i := 3) (oi := Oper.mk (some 108) _ _ _ _ _) (v := ?vc3) rfl (by kernel_rfl) (by kernel_rfl) (by kernel_rfl) (fun _ _ _ h => h) (Or.inl ⟨by rfl, ?hyc3⟩) (by assumption) ?restc3
         case hyc3 => (intro X hX; (try dsimp only at hX); go_simp; try with_reducible rfl)
         try go_frame
         refine wpAnyH_take (i := 6) (oi := Oper.mk (some 111) _ _ _ _ _) (v := ?vc6) rfl (by kernel_rfl) (by kernel_rfl) (by kernel_rfl) (fun _ _ _ h => h) (Or.inl ⟨by rfl, ?hyc6⟩) (by assumption) ?restc6
         case hyc6 => (intro X hX; (try dsimp only at hX); go_simp; try with_reducible rfl)
         try go_frame
         refine wpAnyH_take (i := 7) (oi := Oper.mk (some 112) _ _ _ _ _) (v := ?vc7) rfl (by kernel_rfl) (by kernel_rfl) (by kernel_rfl) (fun _ _ _ h => h) (Or.inl ⟨by rfl, ?hyc7⟩) (by assumption) ?restc7
         case hyc7 => (intro X hX; (try dsimp only at hX); go_simp; try with_reducible rfl)
         try go_frame
         refine wpAnyH_take (i := 8) (oi := Oper.mk (some 113) _ _ _ _ _) (v := ?vc8) rfl (by kernel_rfl) (by kernel_rfl) (by kernel_rfl) (fun _ _ _ h => h) (Or.inl ⟨by rfl, ?hyc8⟩) (by assumption) ?restc8
         case hyc8 => (intro X hX; (try dsimp only at hX); go_simp; try with_reducible rfl)
         try go_frame
         refine wpAnyH_take (i := 9) (oi := Oper.mk (some 114) _ _ _ _ _) (v := ?vc9) rfl (by kernel_rfl) (by kernel_rfl) (by kernel_rfl) (fun _ _ _ h => h) (Or.inl ⟨by rfl, ?hyc9⟩) (by assumption) ?restc9
         case hyc9 => (intro X hX; (try dsimp only at hX); go_simp; try with_reducible rfl)
         try go_frame
         refine wpAnyH_take (i := 10) (oi := Oper.mk (some 115) _ _ _ _ _) (v := ?vc10) rfl (by kernel_rfl) (by kernel_rfl) (by kernel_rfl) (fun _ _ _ h => h) (Or.inl ⟨by rfl, ?hyc10⟩) (by assumption) ?restc10
         case hyc10 => (intro X hX; (try dsimp only at hX); go_simp; try with_reducible rfl)
         try go_frame
         refine wpAnyH_take (i := 11) (oi := Oper.mk (some 116) _ _ _ _ _) (v := ?vc11) rfl (by kernel_rfl) (by kernel_rfl) (by kernel_rfl) (fun _ _ _ h => h) (Or.inl ⟨by rfl, ?hyc11⟩) (by assumption) ?restc11
         case hyc11 => (intro X hX; (try dsimp only at hX); go_simp; try with_reducible rfl)
         try go_frame
         refine wpAnyH_take (i := 12) (oi := Oper.mk (some 117) _ _ _ _ _) (v := ?vc12) rfl (by kernel_rfl) (by kernel_rfl) (by kernel_rfl) (fun _ _ _ h => h) (Or.inl ⟨by rfl, ?hyc12⟩) (by assumption) ?restc12
         case hyc12 => (intro X hX; (try dsimp only at hX); go_simp; try with_reducible rfl)
         try go_frame
         refine wpAnyH_take (i := 13) (oi := Oper.mk (some 118) _ _ _ _ _) (v := ?vc13) rfl (by kernel_rfl) (by kernel_rfl) (by kernel_rfl) (fun _ _ _ h => h) (Or.inl ⟨by rfl, ?hyc13⟩) (by assumption) ?restc13
         case hyc13 => (intro X hX; (try dsimp only at hX); go_simp; try with_reducible rfl)
         try go_frame
         refine wpAnyH_take (i := 14) (oi := Oper.mk (some 119) _ _ _ _ _) (v := ?vc14) rfl (by kernel_rfl) (by kernel_rfl) (by kernel_rfl) (fun _ _ _ h => h) (Or.inl ⟨by rfl, ?hyc14⟩) (by assumption) ?restc14
         case hyc14 => (intro X hX; (try dsimp only at hX); go_simp; try with_reducible rfl)
         try go_frame
         refine wpAnyH_take (i := 15) (oi := Oper.mk (some 120) _ _ _ _ _) (v := ?vc15) rfl (by kernel_rfl) (by kernel_rfl) (by kernel_rfl) (fun _ _ _ h => h) (Or.inl ⟨by rfl, ?hyc15⟩) (by assumption) ?restc15
         case hyc15 => (intro X hX; (try dsimp only at hX); go_simp; try with_reducible rfl)
         try go_frame
         refine wpAnyH_take (i := 16) (oi := Oper.mk (some 121) _ _ _ _ _) (v := ?vc16) rfl (by kernel_rfl) (by kernel_rfl) (by kernel_rfl) (fun _ _ _ h => h) (Or.inl ⟨by rfl, ?hyc16⟩) (by assumption) ?restc16
         case hyc16 => (intro X hX; (try dsimp only at hX); go_simp; try with_reducible rfl)
         try go_frame
         refine wpAnyH_ready (rs := [4]) (by kernel_rfl) (by simp) ?_
         refine AllReadyH.cons (o := Oper.mk (some 109) _ _ _ _ _) rfl (fun Ka hKa => ?_) AllReadyH.nil
         go_simp
         refine Calls.mono (HLF.out _) ?_
         rintro e w7 ⟨rfl, hw7⟩
         have hB7 : Below w9.heap.size w9 w7 := (by rw [hw7]; first | exact HBW.out.drew | exact HBW.out)
         clear hw7
         go_wp2_with fail
         refine hKa.out _ _ (HC.out w7 hB7) (fun hHeld7 => ?_)
         clear hHeld hKa
         try go_frame
         refine wpAnyH_ready (rs := [5]) (by kernel_rfl) (by simp) ?_
         refine AllReadyH.cons (o := Oper.mk (some 110) _ _ _ _ _) rfl (fun Kb hKb => ?_) AllReadyH.nil
         go_simp
         refine Calls.mono (HDG.out _ hB7) ?_
         rintro e w8 ⟨rfl, hb8⟩
         have hB8 : Below w9.heap.size w9 w8 := hB7.trans (hb8.mono hB7.size)
         go_wp2_with fail
         refine hKb.out _ _ (HC.out w8 hB8) (fun hHeld8 => ?_)
         clear hHeld7 hKb
         try go_frame
         refine wpAnyH_take (i := 17) (oi := Oper.mk (some 122) _ _ _ _ _) (v := ?vc17) rfl (by kernel_rfl) (by kernel_rfl) (by kernel_rfl) (fun _ _ _ h => h) (Or.inl ⟨by rfl, ?hyc17⟩) (by assumption) ?restc17
         case hyc17 => (intro X hX; (try dsimp only at hX); go_simp; try with_reducible rfl)
         try go_frame
         refine wpAnyH_take (i := 18) (oi := Oper.mk (some 123) _ _ _ _ _) (v := ?vc18) rfl (by kernel_rfl) (by kernel_rfl) (by kernel_rfl) (fun _ _ _ h => h) (Or.inl ⟨by rfl, ?hyc18⟩) (by assumption) ?restc18
         case hyc18 => (intro X hX; (try dsimp only at hX); go_simp; try with_reducible rfl)
         try go_frame
         refine wpAnyH_take (i := 19) (oi := Oper.mk (some 124) _ _ _ _ _) (v := ?vc19) rfl (by kernel_rfl) (by kernel_rfl) (by kernel_rfl) (fun _ _ _ h => h) (Or.inl ⟨by rfl, ?hyc19⟩) (by assumption) ?restc19
         case hyc19 => (intro X hX; (try dsimp only at hX); go_simp; try with_reducible rfl)
         try go_frame
         refine wpAnyH_take (i := 20) (oi := Oper.mk (some 125) _ _ _ _ _) (v := ?vc20) rfl (by kernel_rfl) (by kernel_rfl) (by kernel_rfl) (fun _ _ _ h => h) (Or.inl ⟨by rfl, ?hyc20⟩) (by assumption) ?restc20
         case hyc20 => (intro X hX; (try dsimp only at hX); go_simp; try with_reducible rfl)
         try go_frame
         refine wpAnyH_take (i := 21) (oi := Oper.mk (some 126) _ _ _ _ _) (v := ?vc21) rfl (by kernel_rfl) (by kernel_rfl) (by kernel_rfl) (fun _ _ _ h => h) (Or.inl ⟨by rfl, ?hyc21⟩) (by assumption) ?restc21
         case hyc21 => (intro X hX; (try dsimp only at hX); go_simp; try with_reducible rfl)
         try go_frame
         refine wpAnyH_take (i := 22) (oi := Oper.mk (some 127) _ _ _ _ _) (v := ?vc22) rfl (by kernel_rfl) (by kernel_rfl) (by kernel_rfl) (fun _ _ _ h => h) (Or.inl ⟨by rfl, ?hyc22⟩) (by assumption) ?restc22
         case hyc22 => (intro X hX; (try dsimp only at hX); go_simp; try with_reducible rfl)
         try go_frame
         refine wpAnyH_take (i := 23) (oi := Oper.mk (some 128) _ _ _ _ _) (v := ?vc23) rfl (by kernel_rfl) (by kernel_rfl) (by kernel_rfl) (fun _ _ _ h => h) (Or.inl ⟨by rfl, ?hyc23⟩) (by assumption) ?restc23
         case hyc23 => (intro X hX; (try dsimp only at hX); go_simp; try with_reducible rfl)
         try go_frame
         refine wpAnyH_take (i := 24) (oi := Oper.mk (some 129) _ _ _ _ _) (v := ?vc24) rfl (by kernel_rfl) (by kernel_rfl) (by kernel_rfl) (fun _ _ _ h => h) (Or.inl ⟨by rfl, ?hyc24⟩) (by assumption) ?restc24
         case hyc24 => (intro X hX; (try dsimp only at hX); go_simp; try with_reducible rfl)
         try go_frame
         refine wpAnyH_take (i := 25) (oi := Oper.mk (some 130) _ _ _ _ _) (v := ?vc25) rfl (by kernel_rfl) (by kernel_rfl) (by kernel_rfl) (fun _ _ _ h => h) (Or.inl ⟨by rfl, ?hyc25⟩) (by assumption) ?restc25
         case hyc25 => (intro X hX; (try dsimp only at hX); go_simp; try with_reducible rfl)
         try go_frame
         refine wpAnyH_take (i := 26) (oi := Oper.mk (some 131) _ _ _ _ _) (v := ?vc26) rfl (by kernel_rfl) (by kernel_rfl) (by kernel_rfl) (fun _ _ _ h => h) (Or.inl ⟨by rfl, ?hyc26⟩) (by assumption) ?restc26
         case hyc26 => (intro X hX; (try dsimp only at hX); go_simp; try with_reducible rfl)
         try go_frame
         refine wpAnyH_take (i := 27) (oi := Oper.mk (some 132) _ _ _ _ _) (v := ?vc27) rfl (by kernel_rfl) (by kernel_rfl) (by kernel_rfl) (fun _ _ _ h => h) (Or.inl ⟨by rfl, ?hyc27⟩) (by assumption) ?restc27
         case hyc27 => (intro X hX; (try dsimp only at hX); go_simp; try with_reducible rfl)
         try go_frame
         refine wpAnyH_take (i := 28) (oi := Oper.mk (some 133) _ _ _ _ _) (v := ?vc28) rfl (by kernel_rfl) (by kernel_rfl) (by kernel_rfl) (fun _ _ _ h => h) (Or.inl ⟨by rfl, ?hyc28⟩) (by assumption) ?restc28
         case hyc28 => (intro X hX; (try dsimp only at hX); go_simp; try with_reducible rfl)
         try go_frame
         refine wpAnyH_take (i := 29) (oi := Oper.mk (some 134) _ _ _ _ _) (v := ?vc29) rfl (by kernel_rfl) (by kernel_rfl) (by kernel_rfl) (fun _ _ _ h => h) (Or.inl ⟨by rfl, ?hyc29⟩) (by assumption) ?restc29
         case hyc29 => (intro X hX; (try dsimp only at hX); go_simp; try with_reducible rfl)
         try go_frame
         refine wpAnyH_take (i := 30) (oi := Oper.mk (some 135) _ _ _ _ _) (v := ?vc30) rfl (by kernel_rfl) (by kernel_rfl) (by kernel_rfl) (fun _ _ _ h => h) (Or.inl ⟨by rfl, ?hyc30⟩) (by assumption) ?restc30
         case hyc30 => (intro X hX; (try dsimp only at hX); go_simp; try with_reducible rfl)
         try go_frame
         refine wpAnyH_take (i := 31) (oi := Oper.mk (some 136) _ _ _ _ _) (v := ?vc31) rfl (by kernel_rfl) (by kernel_rfl) (by kernel_rfl) (fun _ _ _ h => h) (Or.inl ⟨by rfl, ?hyc31⟩) (by assumption) ?restc31
         case hyc31 => (intro X hX; (try dsimp only at hX); go_simp; try with_reducible rfl)
         try go_frame
         refine wpAnyH_take (i := 32) (oi := Oper.mk (some 137) _ _ _ _ _) (v := ?vc32) rfl (by kernel_rfl) (by kernel_rfl) (by kernel_rfl) (fun _ _ _ h => h) (Or.inl ⟨by rfl, ?hyc32⟩) (by assumption) ?restc32
         case hyc32 => (intro X hX; (try dsimp only at hX); go_simp; try with_reducible rfl)
         try go_frame
         refine wpAnyH_take (i := 33) (oi := Oper.mk (some 138) _ _ _ _ _) (v := ?vc33) rfl (by kernel_rfl) (by kernel_rfl) (by kernel_rfl) (fun _ _ _ h => h) (Or.inl ⟨by rfl, ?hyc33⟩) (by assumption) ?restc33
         case hyc33 => (intro X hX; (try dsimp only at hX); go_simp; try with_reducible rfl)
         try go_frame
         refine wpAnyH_take (i := 34) (oi := Oper.mk (some 139) _ _ _ _ _) (v := ?vc34) rfl (by kernel_rfl) (by kernel_rfl) (by kernel_rfl) (fun _ _ _ h => h) (Or.inl ⟨by rfl, ?hyc34⟩) (by assumption) ?restc34
         case hyc34 => (intro X hX; (try dsimp only at hX); go_simp; try with_reducible rfl)
         try go_frame
         refine wpAnyH_done (by kernel_rfl) ?_ _
         have HB8 : Hid (Below w9.heap.size w9 w8) := hB8
         clear hB7 hb8 hB8 hHeld8 v0 v1 v2 v3 v4
         have HEND : Hid ((i < K → ∀ k, k < C → len ≤ fr + i * C + k → ai.data.toList.getD k 0 = 0) → ∀ j, j < i + 1 → okJ kt K C lv o s len S h A j) := fun hz j hj => by
          by_cases e : j = i
          ·rw [e]; exact HOK.out.2 ⟨HDL.out, HSI.out, hz⟩
          ·exact HE.out j (by omega)
         obtain ⟨ic, hic⟩ : ∃ x, i * C = x := ⟨_, rfl⟩
         have hicb : ic ≤ 20000 := by rw [← hic]; exact Nat.le_trans (Nat.mul_le_mul (show i ≤ 255 by omega) hc64) (by decide)
         have e4 : (i : Int) * (C : Int) = (ic : Int) := by rw [← hic]; simp
         have HIC : Hid (i * C = ic) := hic
         rw [hic] at HEND HOK
         clear hic
         go_wp2_with fail
         go_loopw [18] (fun kv wr => ∃ k : Nat, k ≤ C ∧ kv = .int .i64 k ∧ (i < K → ∀ k', k' < k → len ≤ fr + ic + k' → ai.data.toList.getD k' 0 = 0) ∧ Below w9.heap.size w9 wr) (fun kv _ => C - (intOf kv).toNat)
         case atStart => exact ⟨0, Nat.zero_le _, rfl, fun _ k' hk => by omega, HB8.out⟩
         case round =>
          obtain ⟨k, hk, rfl, hZ, hBk⟩ := hrel
          have HZ : Hid (i < K → ∀ k', k' < k → len ≤ fr + ic + k' → ai.data.toList.getD k' 0 = 0) := hZ
          have HBK : Hid (Below w9.heap.size w9 wr) := hBk
          obtain ⟨p0, _, _, _, _⟩ := HC.out wr hBk
          obtain ⟨_, _, z0, _, z2, _⟩ := HV.out wr (HRW.out wr hBk)
          clear hZ hBk
          by_cases hkc : k < C
          ·have hkc' : (k : Int) < (C : Int) := by omega
           by_cases hik : i < K
           ·have hik' : (i : Int) < (K : Int) := by omega
            have hka : k < ai.size := by omega
            obtain ⟨bt, hbt⟩ : ∃ b : Nat, ai[k].toNat = b := ⟨_, rfl⟩
            have hb2 : bt < 256 := by rw [← hbt]; exact ai[k].toNat_lt
            have HBT : Hid (ai.data.toList.getD k 0 = 0 ↔ bt = 0) := by
             show _ ↔ _
             rw [← get_list hka, ← hbt]
             exact ⟨fun e => by rw [e]; rfl, fun e => UInt8.toNat_inj.1 e⟩
            by_cases hpos : len ≤ fr + ic + k
            ·have g1 : (len : Int) ≤ (fr : Int) + (ic : Int) + (k : Int) := by omega
             by_cases hz : bt = 0
             ·have HNX : Hid (i < K → ∀ k', k' < k + 1 → len ≤ fr + ic + k' → ai.data.toList.getD k' 0 = 0) := fun hK k' hk' hp => by
               by_cases e : k' = k
               ·rw [e]; exact HBT.out.2 hz
               ·exact HZ.out hK k' (by omega) hp
              have g2 : ((bt : Int) == 0) = true := by simp; omega
              subst hz
              go_wp2_with fail
              go_roundw
              case rel => exact ⟨k + 1, by omega, by go_num, HNX.out, HBK.out⟩
              case measure => simp [intOf]; omega
             ·have g2 : ((bt : Int) == 0) = false := by simp; omega
              have g3 : ¬ (bt : Int) = 0 := by omega
              have HF2 : Hid (stF kt T bl s = 2) := HNO.out i hlt (fun hno => hz (HBT.out.1 ((HOK.out.1 hno).2.2 hik k hkc hpos)))
              go_wp2_with fail
              go_ret2
              exact ⟨_, by rw [HF2.out]; rfl, HRW.out _ HBK.out, .inr ⟨by rw [HF2.out]; decide, rfl⟩⟩
            ·have g1 : ¬ (len : Int) ≤ (fr : Int) + (ic : Int) + (k : Int) := by omega
             have HNX : Hid (i < K → ∀ k', k' < k + 1 → len ≤ fr + ic + k' → ai.data.toList.getD k' 0 = 0) := fun hK k' hk' hp => by
              by_cases e : k' = k
              ·rw [e] at hp; exact absurd hp hpos
              ·exact HZ.out hK k' (by omega) hp
             go_wp2_with fail
             go_roundw
             case rel => exact ⟨k + 1, by omega, by go_num, HNX.out, HBK.out⟩
             case measure => simp [intOf]; omega
           ·have hik' : ¬ (i : Int) < (K : Int) := by omega
            have HNE : Hid (∀ j, j < i + 1 → okJ kt K C lv o s len S h A j) := HEND.out (fun hK => absurd hK hik)
            go_wp2_with fail
            go_roundw
            case rel => exact ⟨i + 1, by omega, by go_num, HNE.out, HBK.out⟩
            case measure => simp [intOf]; omega
          ·have hkc' : ¬ (k : Int) < (C : Int) := by omega
           have HNE : Hid (∀ j, j < i + 1 → okJ kt K C lv o s len S h A j) := HEND.out (fun hK k' hk' hp => HZ.out hK k' (by omega) hp)
           go_wp2_with fail
           go_roundw
           case rel => exact ⟨i + 1, by omega, by go_num, HNE.out, HBK.out⟩
           case measure => simp [intOf]; omega
        ·have q2 : (ai.toList == si.toList) = false := texts_ne hss
         have HF2 : Hid (stF kt T bl s = 2) := HNO.out i hlt (fun hno => hss ((HOK.out.1 hno).2.1 rfl))
         clear hss hdl
         go_wp2_with fail
         refine wp_region_held_drew (S := fun w2 => w2.cell? ⟨gO, i, none⟩ = some (.string ai) ∧ w2.cell? ⟨b1, i, none⟩ = some (.string si) ∧ w2.cell? ⟨b2, i, none⟩ = some (.bool true) ∧ w2.cell? ⟨h0, 7, none⟩ = some (.slice (some ⟨gL, 0, none⟩) cnt cL) ∧ w2.cell? ⟨gL, oi, none⟩ = some (.string lf)) (by kernel_rfl) (by exact ⟨v0, v1, v2, v3, v4⟩) (fun hHeld => ?_)
         refine wpAnyH_take (i := 0) (oi := Oper.mk (some 105) _ _ _ _ _) (v := ?vd0) rfl (by kernel_rfl) (by kernel_rfl) (by kernel_rfl) (fun _ _ _ h => h) (Or.inl ⟨by rfl, ?hyd0⟩) (by assumption) ?restd0
         case hyd0 => (intro X hX; (try dsimp only at hX); go_simp; try with_reducible rfl)
         try go_frame
         refine wpAnyH_take (i := 1) (oi := Oper.mk (some 106) _ _ _ _ _) (v := ?vd1) rfl (by kernel_rfl) (by kernel_rfl) (by kernel_rfl) (fun _ _ _ h => h) (Or.inl ⟨by rfl, ?hyd1⟩) (by assumption) ?restd1
         case hyd1 => (intro X hX; (try dsimp only at hX); go_simp; try with_reducible rfl)
         try go_frame
         refine wpAnyH_take (i := 2) (oi := Oper.mk (some 107) _ _ _ _ _) (v := ?vd2) rfl (by kernel_rfl) (by kernel_rfl) (by kernel_rfl) (fun _ _ _ h => h) (Or.inl ⟨by rfl, ?hyd2⟩) (by assumption) ?restd2
         case hyd2 => (intro X hX; (try dsimp only at hX); go_simp; try with_reducible rfl)
         try go_frame
         refine wpAnyH_take (i := 3) (oi := Oper.mk (some 108) _ _ _ _ _) (v := ?vd3) rfl (by kernel_rfl) (by kernel_rfl) (by kernel_rfl) (fun _ _ _ h => h) (Or.inl ⟨by rfl, ?hyd3⟩) (by assumption) ?restd3
         case hyd3 => (intro X hX; (try dsimp only at hX); go_simp; try with_reducible rfl)
         try go_frame
         refine wpAnyH_take (i := 6) (oi := Oper.mk (some 111) _ _ _ _ _) (v := ?vd6) rfl (by kernel_rfl) (by kernel_rfl) (by kernel_rfl) (fun _ _ _ h => h) (Or.inl ⟨by rfl, ?hyd6⟩) (by assumption) ?restd6
         case hyd6 => (intro X hX; (try dsimp only at hX); go_simp; try with_reducible rfl)
         try go_frame
         refine wpAnyH_take (i := 7) (oi := Oper.mk (some 112) _ _ _ _ _) (v := ?vd7) rfl (by kernel_rfl) (by kernel_rfl) (by kernel_rfl) (fun _ _ _ h => h) (Or.inl ⟨by rfl, ?hyd7⟩) (by assumption) ?restd7
         case hyd7 => (intro X hX; (try dsimp only at hX); go_simp; try with_reducible rfl)
         try go_frame
         refine wpAnyH_take (i := 8) (oi := Oper.mk (some 113) _ _ _ _ _) (v := ?vd8) rfl (by kernel_rfl) (by kernel_rfl) (by kernel_rfl) (fun _ _ _ h => h) (Or.inl ⟨by rfl, ?hyd8⟩) (by assumption) ?restd8
         case hyd8 => (intro X hX; (try dsimp only at hX); go_simp; try with_reducible rfl)
         try go_frame
         refine wpAnyH_take (i := 9) (oi := Oper.mk (some 114) _ _ _ _ _) (v := ?vd9) rfl (by kernel_rfl) (by kernel_rfl) (by kernel_rfl) (fun _ _ _ h => h) (Or.inl ⟨by rfl, ?hyd9⟩) (by assumption) ?restd9
         case hyd9 => (intro X hX; (try dsimp only at hX); go_simp; try with_reducible rfl)
         try go_frame
         refine wpAnyH_take (i := 10) (oi := Oper.mk (some 115) _ _ _ _ _) (v := ?vd10) rfl (by kernel_rfl) (by kernel_rfl) (by kernel_rfl) (fun _ _ _ h => h) (Or.inl ⟨by rfl, ?hyd10⟩) (by assumption) ?restd10
         case hyd10 => (intro X hX; (try dsimp only at hX); go_simp; try with_reducible rfl)
         try go_frame
         refine wpAnyH_take (i := 11) (oi := Oper.mk (some 116) _ _ _ _ _) (v := ?vd11) rfl (by kernel_rfl) (by kernel_rfl) (by kernel_rfl) (fun _ _ _ h => h) (Or.inl ⟨by rfl, ?hyd11⟩) (by assumption) ?restd11
         case hyd11 => (intro X hX; (try dsimp only at hX); go_simp; try with_reducible rfl)
         try go_frame
         refine wpAnyH_take (i := 12) (oi := Oper.mk (some 117) _ _ _ _ _) (v := ?vd12) rfl (by kernel_rfl) (by kernel_rfl) (by kernel_rfl) (fun _ _ _ h => h) (Or.inl ⟨by rfl, ?hyd12⟩) (by assumption) ?restd12
         case hyd12 => (intro X hX; (try dsimp only at hX); go_simp; try with_reducible rfl)
         try go_frame
         refine wpAnyH_take (i := 13) (oi := Oper.mk (some 118) _ _ _ _ _) (v := ?vd13) rfl (by kernel_rfl) (by kernel_rfl) (by kernel_rfl) (fun _ _ _ h => h) (Or.inl ⟨by rfl, ?hyd13⟩) (by assumption) ?restd13
         case hyd13 => (intro X hX; (try dsimp only at hX); go_simp; try with_reducible rfl)
         try go_frame
         refine wpAnyH_take (i := 14) (oi := Oper.mk (some 119) _ _ _ _ _) (v := ?vd14) rfl (by kernel_rfl) (by kernel_rfl) (by kernel_rfl) (fun _ _ _ h => h) (Or.inl ⟨by rfl, ?hyd14⟩) (by assumption) ?restd14
         case hyd14 => (intro X hX; (try dsimp only at hX); go_simp; try with_reducible rfl)
         try go_frame
         refine wpAnyH_take (i := 15) (oi := Oper.mk (some 120) _ _ _ _ _) (v := ?vd15) rfl (by kernel_rfl) (by kernel_rfl) (by kernel_rfl) (fun _ _ _ h => h) (Or.inl ⟨by rfl, ?hyd15⟩) (by assumption) ?restd15
         case hyd15 => (intro X hX; (try dsimp only at hX); go_simp; try with_reducible rfl)
         try go_frame
         refine wpAnyH_take (i := 16) (oi := Oper.mk (some 121) _ _ _ _ _) (v := ?vd16) rfl (by kernel_rfl) (by kernel_rfl) (by kernel_rfl) (fun _ _ _ h => h) (Or.inl ⟨by rfl, ?hyd16⟩) (by assumption) ?restd16
         case hyd16 => (intro X hX; (try dsimp only at hX); go_simp; try with_reducible rfl)
         try go_frame
         refine wpAnyH_ready (rs := [4]) (by kernel_rfl) (by simp) ?_
         refine AllReadyH.cons (o := Oper.mk (some 109) _ _ _ _ _) rfl (fun Ka hKa => ?_) AllReadyH.nil
         go_simp
         refine Calls.mono (HLF.out _) ?_
         rintro e w7 ⟨rfl, hw7⟩
         have hB7 : Below w9.heap.size w9 w7 := (by rw [hw7]; first | exact HBW.out.drew | exact HBW.out)
         clear hw7
         go_wp2_with fail
         refine hKa.out _ _ (HC.out w7 hB7) (fun hHeld7 => ?_)
         clear hHeld hKa
         try go_frame
         refine wpAnyH_ready (rs := [5]) (by kernel_rfl) (by simp) ?_
         refine AllReadyH.cons (o := Oper.mk (some 110) _ _ _ _ _) rfl (fun Kb hKb => ?_) AllReadyH.nil
         go_simp
         refine Calls.mono (HDG.out _ hB7) ?_
         rintro e w8 ⟨rfl, hb8⟩
         have hB8 : Below w9.heap.size w9 w8 := hB7.trans (hb8.mono hB7.size)
         go_wp2_with fail
         refine hKb.out _ _ (HC.out w8 hB8) (fun hHeld8 => ?_)
         clear hHeld7 hKb
         try go_frame
         refine wpAnyH_take (i := 17) (oi := Oper.mk (some 122) _ _ _ _ _) (v := ?vd17) rfl (by kernel_rfl) (by kernel_rfl) (by kernel_rfl) (fun _ _ _ h => h) (Or.inl ⟨by rfl, ?hyd17⟩) (by assumption) ?restd17
         case hyd17 => (intro X hX; (try dsimp only at hX); go_simp; try with_reducible rfl)
         try go_frame
         refine wpAnyH_take (i := 18) (oi := Oper.mk (some 123) _ _ _ _ _) (v := ?vd18) rfl (by kernel_rfl) (by kernel_rfl) (by kernel_rfl) (fun _ _ _ h => h) (Or.inl ⟨by rfl, ?hyd18⟩) (by assumption) ?restd18
         case hyd18 => (intro X hX; (try dsimp only at hX); go_simp; try with_reducible rfl)
         try go_frame
         refine wpAnyH_take (i := 19) (oi := Oper.mk (some 124) _ _ _ _ _) (v := ?vd19) rfl (by kernel_rfl) (by kernel_rfl) (by kernel_rfl) (fun _ _ _ h => h) (Or.inl ⟨by rfl, ?hyd19⟩) (by assumption) ?restd19
         case hyd19 => (intro X hX; (try dsimp only at hX); go_simp; try with_reducible rfl)
         try go_frame
         refine wpAnyH_take (i := 20) (oi := Oper.mk (some 125) _ _ _ _ _) (v := ?vd20) rfl (by kernel_rfl) (by kernel_rfl) (by kernel_rfl) (fun _ _ _ h => h) (Or.inl ⟨by rfl, ?hyd20⟩) (by assumption) ?restd20
         case hyd20 => (intro X hX; (try dsimp only at hX); go_simp; try with_reducible rfl)
         try go_frame
         refine wpAnyH_take (i := 21) (oi := Oper.mk (some 126) _ _ _ _ _) (v := ?vd21) rfl (by kernel_rfl) (by kernel_rfl) (by kernel_rfl) (fun _ _ _ h => h) (Or.inl ⟨by rfl, ?hyd21⟩) (by assumption) ?restd21
         case hyd21 => (intro X hX; (try dsimp only at hX); go_simp; try with_reducible rfl)
         try go_frame
         refine wpAnyH_take (i := 22) (oi := Oper.mk (some 127) _ _ _ _ _) (v := ?vd22) rfl (by kernel_rfl) (by kernel_rfl) (by kernel_rfl) (fun _ _ _ h => h) (Or.inl ⟨by rfl, ?hyd22⟩) (by assumption) ?restd22
         case hyd22 => (intro X hX; (try dsimp only at hX); go_simp; try with_reducible rfl)
         try go_frame
         refine wpAnyH_take (i := 23) (oi := Oper.mk (some 128) _ _ _ _ _) (v := ?vd23) rfl (by kernel_rfl) (by kernel_rfl) (by kernel_rfl) (fun _ _ _ h => h) (Or.inl ⟨by rfl, ?hyd23⟩) (by assumption) ?restd23
         case hyd23 => (intro X hX; (try dsimp only at hX); go_simp; try with_reducible rfl)
         try go_frame
         refine wpAnyH_take (i := 24) (oi := Oper.mk (some 129) _ _ _ _ _) (v := ?vd24) rfl (by kernel_rfl) (by kernel_rfl) (by kernel_rfl) (fun _ _ _ h => h) (Or.inl ⟨by rfl, ?hyd24⟩) (by assumption) ?restd24
         case hyd24 => (intro X hX; (try dsimp only at hX); go_simp; try with_reducible rfl)
         try go_frame
         refine wpAnyH_take (i := 25) (oi := Oper.mk (some 130) _ _ _ _ _) (v := ?vd25) rfl (by kernel_rfl) (by kernel_rfl) (by kernel_rfl) (fun _ _ _ h => h) (Or.inl ⟨by rfl, ?hyd25⟩) (by assumption) ?restd25
         case hyd25 => (intro X hX; (try dsimp only at hX); go_simp; try with_reducible rfl)
         try go_frame
         refine wpAnyH_take (i := 26) (oi := Oper.mk (some 131) _ _ _ _ _) (v := ?vd26) rfl (by kernel_rfl) (by kernel_rfl) (by kernel_rfl) (fun _ _ _ h => h) (Or.inl ⟨by rfl, ?hyd26⟩) (by assumption) ?restd26
         case hyd26 => (intro X hX; (try dsimp only at hX); go_simp; try with_reducible rfl)
         try go_frame
         refine wpAnyH_take (i := 27) (oi := Oper.mk (some 132) _ _ _ _ _) (v := ?vd27) rfl (by kernel_rfl) (by kernel_rfl) (by kernel_rfl) (fun _ _ _ h => h) (Or.inl ⟨by rfl, ?hyd27⟩) (by assumption) ?restd27
         case hyd27 => (intro X hX; (try dsimp only at hX); go_simp; try with_reducible rfl)
         try go_frame
         refine wpAnyH_take (i := 28) (oi := Oper.mk (some 133) _ _ _ _ _) (v := ?vd28) rfl (by kernel_rfl) (by kernel_rfl) (by kernel_rfl) (fun _ _ _ h => h) (Or.inl ⟨by rfl, ?hyd28⟩) (by assumption) ?restd28
         case hyd28 => (intro X hX; (try dsimp only at hX); go_simp; try with_reducible rfl)
         try go_frame
         refine wpAnyH_take (i := 29) (oi := Oper.mk (some 134) _ _ _ _ _) (v := ?vd29) rfl (by kernel_rfl) (by kernel_rfl) (by kernel_rfl) (fun _ _ _ h => h) (Or.inl ⟨by rfl, ?hyd29⟩) (by assumption) ?restd29
         case hyd29 => (intro X hX; (try dsimp only at hX); go_simp; try with_reducible rfl)
         try go_frame
         refine wpAnyH_take (i := 30) (oi := Oper.mk (some 135) _ _ _ _ _) (v := ?vd30) rfl (by kernel_rfl) (by kernel_rfl) (by kernel_rfl) (fun _ _ _ h => h) (Or.inl ⟨by rfl, ?hyd30⟩) (by assumption) ?restd30
         case hyd30 => (intro X hX; (try dsimp only at hX); go_simp; try with_reducible rfl)
         try go_frame
         refine wpAnyH_take (i := 31) (oi := Oper.mk (some 136) _ _ _ _ _) (v := ?vd31) rfl (by kernel_rfl) (by kernel_rfl) (by kernel_rfl) (fun _ _ _ h => h) (Or.inl ⟨by rfl, ?hyd31⟩) (by assumption) ?restd31
         case hyd31 => (intro X hX; (try dsimp only at hX); go_simp; try with_reducible rfl)
         try go_frame
         refine wpAnyH_take (i := 32) (oi := Oper.mk (some 137) _ _ _ _ _) (v := ?vd32) rfl (by kernel_rfl) (by kernel_rfl) (by kernel_rfl) (fun _ _ _ h => h) (Or.inl ⟨by rfl, ?hyd32⟩) (by assumption) ?restd32
         case hyd32 => (intro X hX; (try dsimp only at hX); go_simp; try with_reducible rfl)
         try go_frame
         refine wpAnyH_take (i := 33) (oi := Oper.mk (some 138) _ _ _ _ _) (v := ?vd33) rfl (by kernel_rfl) (by kernel_rfl) (by kernel_rfl) (fun _ _ _ h => h) (Or.inl ⟨by rfl, ?hyd33⟩) (by assumption) ?restd33
         case hyd33 => (intro X hX; (try dsimp only at hX); go_simp; try with_reducible rfl)
         try go_frame
         refine wpAnyH_take (i := 34) (oi := Oper.mk (some 139) _ _ _ _ _) (v := ?vd34) rfl (by kernel_rfl) (by kernel_rfl) (by kernel_rfl) (fun _ _ _ h => h) (Or.inl ⟨by rfl, ?hyd34⟩) (by assumption) ?restd34
         case hyd34 => (intro X hX; (try dsimp only at hX); go_simp; try with_reducible rfl)
         try go_frame
         refine wpAnyH_done (by kernel_rfl) ?_ _
         have HB8 : Hid (Below w9.heap.size w9 w8) := hB8
         clear hB7 hb8 hB8 hHeld8 v0 v1 v2 v3 v4
         go_wp2_with fail
         go_ret2
         exact ⟨_, by rw [HF2.out]; rfl, HRW.out _ HB8.out, .inr ⟨by rw [HF2.out]; decide, rfl⟩⟩
       | false =>
        have HSI : Hid (false = true → ai = si) := fun e => (by cases e)
        have HDL : Hid (d = lf) := hdl
        clear hdl
        go_wp2_with fail
        refine wp_region_held_drew (S := fun w2 => w2.cell? ⟨gO, i, none⟩ = some (.string ai) ∧ w2.cell? ⟨b1, i, none⟩ = some (.string si) ∧ w2.cell? ⟨b2, i, none⟩ = some (.bool false) ∧ w2.cell? ⟨h0, 7, none⟩ = some (.slice (some ⟨gL, 0, none⟩) cnt cL) ∧ w2.cell? ⟨gL, oi, none⟩ = some (.string lf)) (by kernel_rfl) (by exact ⟨v0, v1, v2, v3, v4⟩) (fun hHeld => ?_)
        refine wpAnyH_take (i := 0) (oi := Oper.mk (some 105) _ _ _ _ _) (v := ?vb0) rfl (by kernel_rfl) (by kernel_rfl) (by kernel_rfl) (fun _ _ _ h => h) (Or.inl ⟨by rfl, ?hyb0⟩) (by assumption) ?restb0
        case hyb0 => (intro X hX; (try dsimp only at hX); go_simp; try with_reducible rfl)
        try go_frame
        refine wpAnyH_take (i := 1) (oi := Oper.mk (some 106) _ _ _ _ _) (v := ?vb1) rfl (by kernel_rfl) (by kernel_rfl) (by kernel_rfl) (fun _ _ _ h => h) (Or.inl ⟨by rfl, ?hyb1⟩) (by assumption) ?restb1
        case hyb1 => (intro X hX; (try dsimp only at hX); go_simp; try with_reducible rfl)
        try go_frame
        refine wpAnyH_take (i := 2) (oi := Oper.mk (some 107) _ _ _ _ _) (v := ?vb2) rfl (by kernel_rfl) (by kernel_rfl) (by kernel_rfl) (fun _ _ _ h => h) (Or.inl ⟨by rfl, ?hyb2⟩) (by assumption) ?restb2
        case hyb2 => (intro X hX; (try dsimp only at hX); go_simp; try with_reducible rfl)
        try go_frame
        refine wpAnyH_take (i := 3) (oi := Oper.mk (some 108) _ _ _ _ _) (v := ?vb3) rfl (by kernel_rfl) (by kernel_rfl) (by kernel_rfl) (fun _ _ _ h => h) (Or.inl ⟨by rfl, ?hyb3⟩) (by assumption) ?restb3
        case hyb3 => (intro X hX; (try dsimp only at hX); go_simp; try with_reducible rfl)
        try go_frame
        refine wpAnyH_take (i := 6) (oi := Oper.mk (some 111) _ _ _ _ _) (v := ?vb6) rfl (by kernel_rfl) (by kernel_rfl) (by kernel_rfl) (fun _ _ _ h => h) (Or.inl ⟨by rfl, ?hyb6⟩) (by assumption) ?restb6
        case hyb6 => (intro X hX; (try dsimp only at hX); go_simp; try with_reducible rfl)
        try go_frame
        refine wpAnyH_take (i := 7) (oi := Oper.mk (some 112) _ _ _ _ _) (v := ?vb7) rfl (by kernel_rfl) (by kernel_rfl) (by kernel_rfl) (fun _ _ _ h => h) (Or.inl ⟨by rfl, ?hyb7⟩) (by assumption) ?restb7
        case hyb7 => (intro X hX; (try dsimp only at hX); go_simp; try with_reducible rfl)
        try go_frame
        refine wpAnyH_take (i := 8) (oi := Oper.mk (some 113) _ _ _ _ _) (v := ?vb8) rfl (by kernel_rfl) (by kernel_rfl) (by kernel_rfl) (fun _ _ _ h => h) (Or.inl ⟨by rfl, ?hyb8⟩) (by assumption) ?restb8
        case hyb8 => (intro X hX; (try dsimp only at hX); go_simp; try with_reducible rfl)
        try go_frame
        refine wpAnyH_take (i := 9) (oi := Oper.mk (some 114) _ _ _ _ _) (v := ?vb9) rfl (by kernel_rfl) (by kernel_rfl) (by kernel_rfl) (fun _ _ _ h => h) (Or.inl ⟨by rfl, ?hyb9⟩) (by assumption) ?restb9
        case hyb9 => (intro X hX; (try dsimp only at hX); go_simp; try with_reducible rfl)
        try go_frame
        refine wpAnyH_take (i := 10) (oi := Oper.mk (some 115) _ _ _ _ _) (v := ?vb10) rfl (by kernel_rfl) (by kernel_rfl) (by kernel_rfl) (fun _ _ _ h => h) (Or.inl ⟨by rfl, ?hyb10⟩) (by assumption) ?restb10
        case hyb10 => (intro X hX; (try dsimp only at hX); go_simp; try with_reducible rfl)
        try go_frame
        refine wpAnyH_take (i := 11) (oi := Oper.mk (some 116) _ _ _ _ _) (v := ?vb11) rfl (by kernel_rfl) (by kernel_rfl) (by kernel_rfl) (fun _ _ _ h => h) (Or.inl ⟨by rfl, ?hyb11⟩) (by assumption) ?restb11
        case hyb11 => (intro X hX; (try dsimp only at hX); go_simp; try with_reducible rfl)
        try go_frame
        refine wpAnyH_take (i := 12) (oi := Oper.mk (some 117) _ _ _ _ _) (v := ?vb12) rfl (by kernel_rfl) (by kernel_rfl) (by kernel_rfl) (fun _ _ _ h => h) (Or.inl ⟨by rfl, ?hyb12⟩) (by assumption) ?restb12
        case hyb12 => (intro X hX; (try dsimp only at hX); go_simp; try with_reducible rfl)
        try go_frame
        refine wpAnyH_take (i := 13) (oi := Oper.mk (some 118) _ _ _ _ _) (v := ?vb13) rfl (by kernel_rfl) (by kernel_rfl) (by kernel_rfl) (fun _ _ _ h => h) (Or.inl ⟨by rfl, ?hyb13⟩) (by assumption) ?restb13
        case hyb13 => (intro X hX; (try dsimp only at hX); go_simp; try with_reducible rfl)
        try go_frame
        refine wpAnyH_take (i := 14) (oi := Oper.mk (some 119) _ _ _ _ _) (v := ?vb14) rfl (by kernel_rfl) (by kernel_rfl) (by kernel_rfl) (fun _ _ _ h => h) (Or.inl ⟨by rfl, ?hyb14⟩) (by assumption) ?restb14
        case hyb14 => (intro X hX; (try dsimp only at hX); go_simp; try with_reducible rfl)
        try go_frame
        refine wpAnyH_take (i := 15) (oi := Oper.mk (some 120) _ _ _ _ _) (v := ?vb15) rfl (by kernel_rfl) (by kernel_rfl) (by kernel_rfl) (fun _ _ _ h => h) (Or.inl ⟨by rfl, ?hyb15⟩) (by assumption) ?restb15
        case hyb15 => (intro X hX; (try dsimp only at hX); go_simp; try with_reducible rfl)
        try go_frame
        refine wpAnyH_take (i := 16) (oi := Oper.mk (some 121) _ _ _ _ _) (v := ?vb16) rfl (by kernel_rfl) (by kernel_rfl) (by kernel_rfl) (fun _ _ _ h => h) (Or.inl ⟨by rfl, ?hyb16⟩) (by assumption) ?restb16
        case hyb16 => (intro X hX; (try dsimp only at hX); go_simp; try with_reducible rfl)
        try go_frame
        refine wpAnyH_ready (rs := [4]) (by kernel_rfl) (by simp) ?_
        refine AllReadyH.cons (o := Oper.mk (some 109) _ _ _ _ _) rfl (fun Ka hKa => ?_) AllReadyH.nil
        go_simp
        refine Calls.mono (HLF.out _) ?_
        rintro e w7 ⟨rfl, hw7⟩
        have hB7 : Below w9.heap.size w9 w7 := (by rw [hw7]; first | exact HBW.out.drew | exact HBW.out)
        clear hw7
        go_wp2_with fail
        refine hKa.out _ _ (HC.out w7 hB7) (fun hHeld7 => ?_)
        clear hHeld hKa
        try go_frame
        refine wpAnyH_ready (rs := [5]) (by kernel_rfl) (by simp) ?_
        refine AllReadyH.cons (o := Oper.mk (some 110) _ _ _ _ _) rfl (fun Kb hKb => ?_) AllReadyH.nil
        go_simp
        refine Calls.mono (HDG.out _ hB7) ?_
        rintro e w8 ⟨rfl, hb8⟩
        have hB8 : Below w9.heap.size w9 w8 := hB7.trans (hb8.mono hB7.size)
        go_wp2_with fail
        refine hKb.out _ _ (HC.out w8 hB8) (fun hHeld8 => ?_)
        clear hHeld7 hKb
        try go_frame
        refine wpAnyH_take (i := 17) (oi := Oper.mk (some 122) _ _ _ _ _) (v := ?vb17) rfl (by kernel_rfl) (by kernel_rfl) (by kernel_rfl) (fun _ _ _ h => h) (Or.inl ⟨by rfl, ?hyb17⟩) (by assumption) ?restb17
        case hyb17 => (intro X hX; (try dsimp only at hX); go_simp; try with_reducible rfl)
        try go_frame
        refine wpAnyH_take (i := 18) (oi := Oper.mk (some 123) _ _ _ _ _) (v := ?vb18) rfl (by kernel_rfl) (by kernel_rfl) (by kernel_rfl) (fun _ _ _ h => h) (Or.inl ⟨by rfl, ?hyb18⟩) (by assumption) ?restb18
        case hyb18 => (intro X hX; (try dsimp only at hX); go_simp; try with_reducible rfl)
        try go_frame
        refine wpAnyH_take (i := 19) (oi := Oper.mk (some 124) _ _ _ _ _) (v := ?vb19) rfl (by kernel_rfl) (by kernel_rfl) (by kernel_rfl) (fun _ _ _ h => h) (Or.inl ⟨by rfl, ?hyb19⟩) (by assumption) ?restb19
        case hyb19 => (intro X hX; (try dsimp only at hX); go_simp; try with_reducible rfl)
        try go_frame
        refine wpAnyH_take (i := 20) (oi := Oper.mk (some 125) _ _ _ _ _) (v := ?vb20) rfl (by kernel_rfl) (by kernel_rfl) (by kernel_rfl) (fun _ _ _ h => h) (Or.inl ⟨by rfl, ?hyb20⟩) (by assumption) ?restb20
        case hyb20 => (intro X hX; (try dsimp only at hX); go_simp; try with_reducible rfl)
        try go_frame
        refine wpAnyH_take (i := 21) (oi := Oper.mk (some 126) _ _ _ _ _) (v := ?vb21) rfl (by kernel_rfl) (by kernel_rfl) (by kernel_rfl) (fun _ _ _ h => h) (Or.inl ⟨by rfl, ?hyb21⟩) (by assumption) ?restb21
        case hyb21 => (intro X hX; (try dsimp only at hX); go_simp; try with_reducible rfl)
        try go_frame
        refine wpAnyH_take (i := 22) (oi := Oper.mk (some 127) _ _ _ _ _) (v := ?vb22) rfl (by kernel_rfl) (by kernel_rfl) (by kernel_rfl) (fun _ _ _ h => h) (Or.inl ⟨by rfl, ?hyb22⟩) (by assumption) ?restb22
        case hyb22 => (intro X hX; (try dsimp only at hX); go_simp; try with_reducible rfl)
        try go_frame
        refine wpAnyH_take (i := 23) (oi := Oper.mk (some 128) _ _ _ _ _) (v := ?vb23) rfl (by kernel_rfl) (by kernel_rfl) (by kernel_rfl) (fun _ _ _ h => h) (Or.inl ⟨by rfl, ?hyb23⟩) (by assumption) ?restb23
        case hyb23 => (intro X hX; (try dsimp only at hX); go_simp; try with_reducible rfl)
        try go_frame
        refine wpAnyH_take (i := 24) (oi := Oper.mk (some 129) _ _ _ _ _) (v := undef) rfl (by kernel_rfl) (by kernel_rfl) (by kernel_rfl) (fun _ _ _ h => h) (Or.inr ⟨by rfl, rfl⟩) (by assumption) ?restb24
        try go_frame
        refine wpAnyH_take (i := 25) (oi := Oper.mk (some 130) _ _ _ _ _) (v := undef) rfl (by kernel_rfl) (by kernel_rfl) (by kernel_rfl) (fun _ _ _ h => h) (Or.inr ⟨by rfl, rfl⟩) (by assumption) ?restb25
        try go_frame
        refine wpAnyH_take (i := 26) (oi := Oper.mk (some 131) _ _ _ _ _) (v := undef) rfl (by kernel_rfl) (by kernel_rfl) (by kernel_rfl) (fun _ _ _ h => h) (Or.inr ⟨by rfl, rfl⟩) (by assumption) ?restb26
        try go_frame
        refine wpAnyH_take (i := 27) (oi := Oper.mk (some 132) _ _ _ _ _) (v := undef) rfl (by kernel_rfl) (by kernel_rfl) (by kernel_rfl) (fun _ _ _ h => h) (Or.inr ⟨by rfl, rfl⟩) (by assumption) ?restb27
        try go_frame
        refine wpAnyH_take (i := 28) (oi := Oper.mk (some 133) _ _ _ _ _) (v := undef) rfl (by kernel_rfl) (by kernel_rfl) (by kernel_rfl) (fun _ _ _ h => h) (Or.inr ⟨by rfl, rfl⟩) (by assumption) ?restb28
        try go_frame
        refine wpAnyH_take (i := 29) (oi := Oper.mk (some 134) _ _ _ _ _) (v := undef) rfl (by kernel_rfl) (by kernel_rfl) (by kernel_rfl) (fun _ _ _ h => h) (Or.inr ⟨by rfl, rfl⟩) (by assumption) ?restb29
        try go_frame
        refine wpAnyH_take (i := 30) (oi := Oper.mk (some 135) _ _ _ _ _) (v := undef) rfl (by kernel_rfl) (by kernel_rfl) (by kernel_rfl) (fun _ _ _ h => h) (Or.inr ⟨by rfl, rfl⟩) (by assumption) ?restb30
        try go_frame
        refine wpAnyH_take (i := 31) (oi := Oper.mk (some 136) _ _ _ _ _) (v := undef) rfl (by kernel_rfl) (by kernel_rfl) (by kernel_rfl) (fun _ _ _ h => h) (Or.inr ⟨by rfl, rfl⟩) (by assumption) ?restb31
        try go_frame
        refine wpAnyH_take (i := 32) (oi := Oper.mk (some 137) _ _ _ _ _) (v := undef) rfl (by kernel_rfl) (by kernel_rfl) (by kernel_rfl) (fun _ _ _ h => h) (Or.inr ⟨by rfl, rfl⟩) (by assumption) ?restb32
        try go_frame
        refine wpAnyH_take (i := 33) (oi := Oper.mk (some 138) _ _ _ _ _) (v := ?vb33) rfl (by kernel_rfl) (by kernel_rfl) (by kernel_rfl) (fun _ _ _ h => h) (Or.inl ⟨by rfl, ?hyb33⟩) (by assumption) ?restb33
        case hyb33 => (intro X hX; (try dsimp only at hX); go_simp; try with_reducible rfl)
        try go_frame
        refine wpAnyH_take (i := 34) (oi := Oper.mk (some 139) _ _ _ _ _) (v := ?vb34) rfl (by kernel_rfl) (by kernel_rfl) (by kernel_rfl) (fun _ _ _ h => h) (Or.inl ⟨by rfl, ?hyb34⟩) (by assumption) ?restb34
        case hyb34 => (intro X hX; (try dsimp only at hX); go_simp; try with_reducible rfl)
        try go_frame
        refine wpAnyH_done (by kernel_rfl) ?_ _
        have HB8 : Hid (Below w9.heap.size w9 w8) := hB8
        clear hB7 hb8 hB8 hHeld8 v0 v1 v2 v3 v4
        have HEND : Hid ((i < K → ∀ k, k < C → len ≤ fr + i * C + k → ai.data.toList.getD k 0 = 0) → ∀ j, j < i + 1 → okJ kt K C lv o s len S h A j) := fun hz j hj => by
         by_cases e : j = i
         ·rw [e]; exact HOK.out.2 ⟨HDL.out, HSI.out, hz⟩
         ·exact HE.out j (by omega)
        obtain ⟨ic, hic⟩ : ∃ x, i * C = x := ⟨_, rfl⟩
        have hicb : ic ≤ 20000 := by rw [← hic]; exact Nat.le_trans (Nat.mul_le_mul (show i ≤ 255 by omega) hc64) (by decide)
        have e4 : (i : Int) * (C : Int) = (ic : Int) := by rw [← hic]; simp
        have HIC : Hid (i * C = ic) := hic
        rw [hic] at HEND HOK
        clear hic
        go_wp2_with fail
        go_loopw [18] (fun kv wr => ∃ k : Nat, k ≤ C ∧ kv = .int .i64 k ∧ (i < K → ∀ k', k' < k → len ≤ fr + ic + k' → ai.data.toList.getD k' 0 = 0) ∧ Below w9.heap.size w9 wr) (fun kv _ => C - (intOf kv).toNat)
        case atStart => exact ⟨0, Nat.zero_le _, rfl, fun _ k' hk => by omega, HB8.out⟩
        case round =>
         obtain ⟨k, hk, rfl, hZ, hBk⟩ := hrel
         have HZ : Hid (i < K → ∀ k', k' < k → len ≤ fr + ic + k' → ai.data.toList.getD k' 0 = 0) := hZ
         have HBK : Hid (Below w9.heap.size w9 wr) := hBk
         obtain ⟨p0, _, _, _, _⟩ := HC.out wr hBk
         obtain ⟨_, _, z0, _, z2, _⟩ := HV.out wr (HRW.out wr hBk)
         clear hZ hBk
         by_cases hkc : k < C
         ·have hkc' : (k : Int) < (C : Int) := by omega
          by_cases hik : i < K
          ·have hik' : (i : Int) < (K : Int) := by omega
           have hka : k < ai.size := by omega
           obtain ⟨bt, hbt⟩ : ∃ b : Nat, ai[k].toNat = b := ⟨_, rfl⟩
           have hb2 : bt < 256 := by rw [← hbt]; exact ai[k].toNat_lt
           have HBT : Hid (ai.data.toList.getD k 0 = 0 ↔ bt = 0) := by
            show _ ↔ _
            rw [← get_list hka, ← hbt]
            exact ⟨fun e => by rw [e]; rfl, fun e => UInt8.toNat_inj.1 e⟩
           by_cases hpos : len ≤ fr + ic + k
           ·have g1 : (len : Int) ≤ (fr : Int) + (ic : Int) + (k : Int) := by omega
            by_cases hz : bt = 0
            ·have HNX : Hid (i < K → ∀ k', k' < k + 1 → len ≤ fr + ic + k' → ai.data.toList.getD k' 0 = 0) := fun hK k' hk' hp => by
              by_cases e : k' = k
              ·rw [e]; exact HBT.out.2 hz
              ·exact HZ.out hK k' (by omega) hp
             have g2 : ((bt : Int) == 0) = true := by simp; omega
             subst hz
             go_wp2_with fail
             go_roundw
             case rel => exact ⟨k + 1, by omega, by go_num, HNX.out, HBK.out⟩
             case measure => simp [intOf]; omega
            ·have g2 : ((bt : Int) == 0) = false := by simp; omega
             have g3 : ¬ (bt : Int) = 0 := by omega
             have HF2 : Hid (stF kt T bl s = 2) := HNO.out i hlt (fun hno => hz (HBT.out.1 ((HOK.out.1 hno).2.2 hik k hkc hpos)))
             go_wp2_with fail
             go_ret2
             exact ⟨_, by rw [HF2.out]; rfl, HRW.out _ HBK.out, .inr ⟨by rw [HF2.out]; decide, rfl⟩⟩
           ·have g1 : ¬ (len : Int) ≤ (fr : Int) + (ic : Int) + (k : Int) := by omega
            have HNX : Hid (i < K → ∀ k', k' < k + 1 → len ≤ fr + ic + k' → ai.data.toList.getD k' 0 = 0) := fun hK k' hk' hp => by
             by_cases e : k' = k
             ·rw [e] at hp; exact absurd hp hpos
             ·exact HZ.out hK k' (by omega) hp
            go_wp2_with fail
            go_roundw
            case rel => exact ⟨k + 1, by omega, by go_num, HNX.out, HBK.out⟩
            case measure => simp [intOf]; omega
          ·have hik' : ¬ (i : Int) < (K : Int) := by omega
           have HNE : Hid (∀ j, j < i + 1 → okJ kt K C lv o s len S h A j) := HEND.out (fun hK => absurd hK hik)
           go_wp2_with fail
           go_roundw
           case rel => exact ⟨i + 1, by omega, by go_num, HNE.out, HBK.out⟩
           case measure => simp [intOf]; omega
         ·have hkc' : ¬ (k : Int) < (C : Int) := by omega
          have HNE : Hid (∀ j, j < i + 1 → okJ kt K C lv o s len S h A j) := HEND.out (fun hK k' hk' hp => HZ.out hK k' (by omega) hp)
          go_wp2_with fail
          go_roundw
          case rel => exact ⟨i + 1, by omega, by go_num, HNE.out, HBK.out⟩
          case measure => simp [intOf]; omega
      ·have q1 : (d.toList == lf.toList) = false := texts_ne hdl
       have HF2 : Hid (stF kt T bl s = 2) := HNO.out i hlt (fun hno => hdl (HOK.out.1 hno).1)
       clear hdl
       go_wp2_with fail
       refine wp_region_held_drew (S := fun w2 => w2.cell? ⟨gO, i, none⟩ = some (.string ai) ∧ w2.cell? ⟨b1, i, none⟩ = some (.string si) ∧ w2.cell? ⟨b2, i, none⟩ = some (.bool hb) ∧ w2.cell? ⟨h0, 7, none⟩ = some (.slice (some ⟨gL, 0, none⟩) cnt cL) ∧ w2.cell? ⟨gL, oi, none⟩ = some (.string lf)) (by kernel_rfl) (by exact ⟨v0, v1, v2, v3, v4⟩) (fun hHeld => ?_)
       refine wpAnyH_take (i := 0) (oi := Oper.mk (some 105) _ _ _ _ _) (v := ?va0) rfl (by kernel_rfl) (by kernel_rfl) (by kernel_rfl) (fun _ _ _ h => h) (Or.inl ⟨by rfl, ?hya0⟩) (by assumption) ?resta0
       case hya0 => (intro X hX; (try dsimp only at hX); go_simp; try with_reducible rfl)
       try go_frame
       refine wpAnyH_take (i := 1) (oi := Oper.mk (some 106) _ _ _ _ _) (v := ?va1) rfl (by kernel_rfl) (by kernel_rfl) (by kernel_rfl) (fun _ _ _ h => h) (Or.inl ⟨by rfl, ?hya1⟩) (by assumption) ?resta1
       case hya1 => (intro X hX; (try dsimp only at hX); go_simp; try with_reducible rfl)
       try go_frame
       refine wpAnyH_take (i := 2) (oi := Oper.mk (some 107) _ _ _ _ _) (v := ?va2) rfl (by kernel_rfl) (by kernel_rfl) (by kernel_rfl) (fun _ _ _ h => h) (Or.inl ⟨by rfl, ?hya2⟩) (by assumption) ?resta2
       case hya2 => (intro X hX; (try dsimp only at hX); go_simp; try with_reducible rfl)
       try go_frame
       refine wpAnyH_take (i := 3) (oi := Oper.mk (some 108) _ _ _ _ _) (v := ?va3) rfl (by kernel_rfl) (by kernel_rfl) (by kernel_rfl) (fun _ _ _ h => h) (Or.inl ⟨by rfl, ?hya3⟩) (by assumption) ?resta3
       case hya3 => (intro X hX; (try dsimp only at hX); go_simp; try with_reducible rfl)
       try go_frame
       refine wpAnyH_take (i := 6) (oi := Oper.mk (some 111) _ _ _ _ _) (v := ?va6) rfl (by kernel_rfl) (by kernel_rfl) (by kernel_rfl) (fun _ _ _ h => h) (Or.inl ⟨by rfl, ?hya6⟩) (by assumption) ?resta6
       case hya6 => (intro X hX; (try dsimp only at hX); go_simp; try with_reducible rfl)
       try go_frame
       refine wpAnyH_take (i := 7) (oi := Oper.mk (some 112) _ _ _ _ _) (v := ?va7) rfl (by kernel_rfl) (by kernel_rfl) (by kernel_rfl) (fun _ _ _ h => h) (Or.inl ⟨by rfl, ?hya7⟩) (by assumption) ?resta7
       case hya7 => (intro X hX; (try dsimp only at hX); go_simp; try with_reducible rfl)
       try go_frame
       refine wpAnyH_take (i := 8) (oi := Oper.mk (some 113) _ _ _ _ _) (v := ?va8) rfl (by kernel_rfl) (by kernel_rfl) (by kernel_rfl) (fun _ _ _ h => h) (Or.inl ⟨by rfl, ?hya8⟩) (by assumption) ?resta8
       case hya8 => (intro X hX; (try dsimp only at hX); go_simp; try with_reducible rfl)
       try go_frame
       refine wpAnyH_take (i := 9) (oi := Oper.mk (some 114) _ _ _ _ _) (v := ?va9) rfl (by kernel_rfl) (by kernel_rfl) (by kernel_rfl) (fun _ _ _ h => h) (Or.inl ⟨by rfl, ?hya9⟩) (by assumption) ?resta9
       case hya9 => (intro X hX; (try dsimp only at hX); go_simp; try with_reducible rfl)
       try go_frame
       refine wpAnyH_take (i := 10) (oi := Oper.mk (some 115) _ _ _ _ _) (v := ?va10) rfl (by kernel_rfl) (by kernel_rfl) (by kernel_rfl) (fun _ _ _ h => h) (Or.inl ⟨by rfl, ?hya10⟩) (by assumption) ?resta10
       case hya10 => (intro X hX; (try dsimp only at hX); go_simp; try with_reducible rfl)
       try go_frame
       refine wpAnyH_take (i := 11) (oi := Oper.mk (some 116) _ _ _ _ _) (v := ?va11) rfl (by kernel_rfl) (by kernel_rfl) (by kernel_rfl) (fun _ _ _ h => h) (Or.inl ⟨by rfl, ?hya11⟩) (by assumption) ?resta11
       case hya11 => (intro X hX; (try dsimp only at hX); go_simp; try with_reducible rfl)
       try go_frame
       refine wpAnyH_take (i := 12) (oi := Oper.mk (some 117) _ _ _ _ _) (v := ?va12) rfl (by kernel_rfl) (by kernel_rfl) (by kernel_rfl) (fun _ _ _ h => h) (Or.inl ⟨by rfl, ?hya12⟩) (by assumption) ?resta12
       case hya12 => (intro X hX; (try dsimp only at hX); go_simp; try with_reducible rfl)
       try go_frame
       refine wpAnyH_take (i := 13) (oi := Oper.mk (some 118) _ _ _ _ _) (v := ?va13) rfl (by kernel_rfl) (by kernel_rfl) (by kernel_rfl) (fun _ _ _ h => h) (Or.inl ⟨by rfl, ?hya13⟩) (by assumption) ?resta13
       case hya13 => (intro X hX; (try dsimp only at hX); go_simp; try with_reducible rfl)
       try go_frame
       refine wpAnyH_take (i := 14) (oi := Oper.mk (some 119) _ _ _ _ _) (v := ?va14) rfl (by kernel_rfl) (by kernel_rfl) (by kernel_rfl) (fun _ _ _ h => h) (Or.inl ⟨by rfl, ?hya14⟩) (by assumption) ?resta14
       case hya14 => (intro X hX; (try dsimp only at hX); go_simp; try with_reducible rfl)
       try go_frame
       refine wpAnyH_take (i := 15) (oi := Oper.mk (some 120) _ _ _ _ _) (v := ?va15) rfl (by kernel_rfl) (by kernel_rfl) (by kernel_rfl) (fun _ _ _ h => h) (Or.inl ⟨by rfl, ?hya15⟩) (by assumption) ?resta15
       case hya15 => (intro X hX; (try dsimp only at hX); go_simp; try with_reducible rfl)
       try go_frame
       refine wpAnyH_take (i := 16) (oi := Oper.mk (some 121) _ _ _ _ _) (v := ?va16) rfl (by kernel_rfl) (by kernel_rfl) (by kernel_rfl) (fun _ _ _ h => h) (Or.inl ⟨by rfl, ?hya16⟩) (by assumption) ?resta16
       case hya16 => (intro X hX; (try dsimp only at hX); go_simp; try with_reducible rfl)
       try go_frame
       refine wpAnyH_ready (rs := [4]) (by kernel_rfl) (by simp) ?_
       refine AllReadyH.cons (o := Oper.mk (some 109) _ _ _ _ _) rfl (fun Ka hKa => ?_) AllReadyH.nil
       go_simp
       refine Calls.mono (HLF.out _) ?_
       rintro e w7 ⟨rfl, hw7⟩
       have hB7 : Below w9.heap.size w9 w7 := (by rw [hw7]; first | exact HBW.out.drew | exact HBW.out)
       clear hw7
       go_wp2_with fail
       refine hKa.out _ _ (HC.out w7 hB7) (fun hHeld7 => ?_)
       clear hHeld hKa
       try go_frame
       refine wpAnyH_ready (rs := [5]) (by kernel_rfl) (by simp) ?_
       refine AllReadyH.cons (o := Oper.mk (some 110) _ _ _ _ _) rfl (fun Kb hKb => ?_) AllReadyH.nil
       go_simp
       refine Calls.mono (HDG.out _ hB7) ?_
       rintro e w8 ⟨rfl, hb8⟩
       have hB8 : Below w9.heap.size w9 w8 := hB7.trans (hb8.mono hB7.size)
       go_wp2_with fail
       refine hKb.out _ _ (HC.out w8 hB8) (fun hHeld8 => ?_)
       clear hHeld7 hKb
       try go_frame
       refine wpAnyH_take (i := 17) (oi := Oper.mk (some 122) _ _ _ _ _) (v := ?va17) rfl (by kernel_rfl) (by kernel_rfl) (by kernel_rfl) (fun _ _ _ h => h) (Or.inl ⟨by rfl, ?hya17⟩) (by assumption) ?resta17
       case hya17 => (intro X hX; (try dsimp only at hX); go_simp; try with_reducible rfl)
       try go_frame
       refine wpAnyH_take (i := 18) (oi := Oper.mk (some 123) _ _ _ _ _) (v := ?va18) rfl (by kernel_rfl) (by kernel_rfl) (by kernel_rfl) (fun _ _ _ h => h) (Or.inl ⟨by rfl, ?hya18⟩) (by assumption) ?resta18
       case hya18 => (intro X hX; (try dsimp only at hX); go_simp; try with_reducible rfl)
       try go_frame
       refine wpAnyH_take (i := 19) (oi := Oper.mk (some 124) _ _ _ _ _) (v := undef) rfl (by kernel_rfl) (by kernel_rfl) (by kernel_rfl) (fun _ _ _ h => h) (Or.inr ⟨by rfl, rfl⟩) (by assumption) ?resta19
       try go_frame
       refine wpAnyH_take (i := 20) (oi := Oper.mk (some 125) _ _ _ _ _) (v := undef) rfl (by kernel_rfl) (by kernel_rfl) (by kernel_rfl) (fun _ _ _ h => h) (Or.inr ⟨by rfl, rfl⟩) (by assumption) ?resta20
       try go_frame
       refine wpAnyH_take (i := 21) (oi := Oper.mk (some 126) _ _ _ _ _) (v := undef) rfl (by kernel_rfl) (by kernel_rfl) (by kernel_rfl) (fun _ _ _ h => h) (Or.inr ⟨by rfl, rfl⟩) (by assumption) ?resta21
       try go_frame
       refine wpAnyH_take (i := 22) (oi := Oper.mk (some 127) _ _ _ _ _) (v := undef) rfl (by kernel_rfl) (by kernel_rfl) (by kernel_rfl) (fun _ _ _ h => h) (Or.inr ⟨by rfl, rfl⟩) (by assumption) ?resta22
       try go_frame
       refine wpAnyH_take (i := 23) (oi := Oper.mk (some 128) _ _ _ _ _) (v := undef) rfl (by kernel_rfl) (by kernel_rfl) (by kernel_rfl) (fun _ _ _ h => h) (Or.inr ⟨by rfl, rfl⟩) (by assumption) ?resta23
       try go_frame
       refine wpAnyH_take (i := 24) (oi := Oper.mk (some 129) _ _ _ _ _) (v := undef) rfl (by kernel_rfl) (by kernel_rfl) (by kernel_rfl) (fun _ _ _ h => h) (Or.inr ⟨by rfl, rfl⟩) (by assumption) ?resta24
       try go_frame
       refine wpAnyH_take (i := 25) (oi := Oper.mk (some 130) _ _ _ _ _) (v := undef) rfl (by kernel_rfl) (by kernel_rfl) (by kernel_rfl) (fun _ _ _ h => h) (Or.inr ⟨by rfl, rfl⟩) (by assumption) ?resta25
       try go_frame
       refine wpAnyH_take (i := 26) (oi := Oper.mk (some 131) _ _ _ _ _) (v := undef) rfl (by kernel_rfl) (by kernel_rfl) (by kernel_rfl) (fun _ _ _ h => h) (Or.inr ⟨by rfl, rfl⟩) (by assumption) ?resta26
       try go_frame
       refine wpAnyH_take (i := 27) (oi := Oper.mk (some 132) _ _ _ _ _) (v := undef) rfl (by kernel_rfl) (by kernel_rfl) (by kernel_rfl) (fun _ _ _ h => h) (Or.inr ⟨by rfl, rfl⟩) (by assumption) ?resta27
       try go_frame
       refine wpAnyH_take (i := 28) (oi := Oper.mk (some 133) _ _ _ _ _) (v := undef) rfl (by kernel_rfl) (by kernel_rfl) (by kernel_rfl) (fun _ _ _ h => h) (Or.inr ⟨by rfl, rfl⟩) (by assumption) ?resta28
       try go_frame
       refine wpAnyH_take (i := 29) (oi := Oper.mk (some 134) _ _ _ _ _) (v := undef) rfl (by kernel_rfl) (by kernel_rfl) (by kernel_rfl) (fun _ _ _ h => h) (Or.inr ⟨by rfl, rfl⟩) (by assumption) ?resta29
       try go_frame
       refine wpAnyH_take (i := 30) (oi := Oper.mk (some 135) _ _ _ _ _) (v := undef) rfl (by kernel_rfl) (by kernel_rfl) (by kernel_rfl) (fun _ _ _ h => h) (Or.inr ⟨by rfl, rfl⟩) (by assumption) ?resta30
       try go_frame
       refine wpAnyH_take (i := 31) (oi := Oper.mk (some 136) _ _ _ _ _) (v := undef) rfl (by kernel_rfl) (by kernel_rfl) (by kernel_rfl) (fun _ _ _ h => h) (Or.inr ⟨by rfl, rfl⟩) (by assumption) ?resta31
       try go_frame
       refine wpAnyH_take (i := 32) (oi := Oper.mk (some 137) _ _ _ _ _) (v := undef) rfl (by kernel_rfl) (by kernel_rfl) (by kernel_rfl) (fun _ _ _ h => h) (Or.inr ⟨by rfl, rfl⟩) (by assumption) ?resta32
       try go_frame
       refine wpAnyH_take (i := 33) (oi := Oper.mk (some 138) _ _ _ _ _) (v := undef) rfl (by kernel_rfl) (by kernel_rfl) (by kernel_rfl) (fun _ _ _ h => h) (Or.inr ⟨by rfl, rfl⟩) (by assumption) ?resta33
       try go_frame
       refine wpAnyH_take (i := 34) (oi := Oper.mk (some 139) _ _ _ _ _) (v := ?va34) rfl (by kernel_rfl) (by kernel_rfl) (by kernel_rfl) (fun _ _ _ h => h) (Or.inl ⟨by rfl, ?hya34⟩) (by assumption) ?resta34
       case hya34 => (intro X hX; (try dsimp only at hX); go_simp; try with_reducible rfl)
       try go_frame
       refine wpAnyH_done (by kernel_rfl) ?_ _
       have HB8 : Hid (Below w9.heap.size w9 w8) := hB8
       clear hB7 hb8 hB8 hHeld8 v0 v1 v2 v3 v4
       go_wp2_with fail
       go_ret2
       exact ⟨_, by rw [HF2.out]; rfl, HRW.out _ HB8.out, .inr ⟨by rw [HF2.out]; decide, rfl⟩⟩
     ·obtain rfl : n = i := by omega
      have hlt' : ¬ (n : Int) < (n : Int) := by omega
      have HF0 : Hid (stF kt T bl s = 0) := HYE.out HE.out
      go_wp2_with fail
      go_ret2
      have ho2 := own_kept HOY.out (fun q hq => HBW.out.block q (own_lt HOY.out q hq))
      refine ⟨_, by rw [HF0.out]; rfl, HRW.out _ HBW.out, .inl ⟨HF0.out, ?_⟩⟩
      rw [hTn, tV_congr HST.out]
      exact ho2
end Go.Proofs.YtadinjaocnlglaaGreatDoor
