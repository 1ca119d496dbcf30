/-
  The walk of Matrix.Times.
  The walk of stripe.values.
  The walks of stripe.CheckParams and parity, where nothing is refused.
  The walk of strings.Clone.
  The walks of pick, sameTexts.
  The walk of varint.Of; plain: the bytes of a varint.
  The walks of layout's cut, share, countStripes, CountBlocks.
  The walks of layout's countStripes, CountBlocks.
-/
import Derived.Test.YtadinjaocnlglaaGreatDoorZ03
import Derived.WalkKit
import Derived.WalkSpells
import Derived.WalkLawsBesides
import Derived.BigRegion
import Derived.BigQuiet
import Derived.Deep.QuietTactic
import Derived.Deep.RegionWith
import Derived.Deep.RegionHeld3
import Derived.Lib.UnsafeStr
import Derived.Lib.BufferWrite
import Derived.Lib.Strings
import Derived.Test.YtadinjaocnlglaaGreatDoorProg
import Derived.Test.YtadinjaocnlglaaGreatDoorZ02
namespace Go.Proofs.YtadinjaocnlglaaGreatDoor
open Go.RowKit
theorem MatP.mat {w : World} {B g m n : Nat} {V : Nat → Nat → Nat} {G : Nat → Nat} (h : MatP w B g m m n V G) : Mat w g m n V G :=
 ⟨fun i hi => by rw [h.top.cell i hi]; simp [part', hi], h.top.lt, fun i hi => ⟨(h.rows i hi).2.2.cl, (h.rows i hi).2.2.lt⟩⟩
theorem MatP.step {w w2 : World} {B g m k n : Nat} {V : Nat → Nat → Nat} {G : Nat → Nat} (h : MatP w B g m k n V G) (hb : Below w.heap.size w w2) (o : Nat) (ho : w.heap.size ≤ o) (hB : B ≤ w.heap.size) (hr : Rw w2 o n 393 (nb (V k))) :
  MatP (w2.setCell ⟨g, k, none⟩ (.slice (some ⟨o, 0, none⟩) n n)) B g m (k + 1) n V (fun i => if i = k then o else G i) := by
 have hgl := h.top.lt
 refine ⟨?_, fun i hi => ?_⟩
 ·refine ((h.top.below hb hgl).put k _).to (fun j _ => ?_)
  rw [← part_step]
  simp only [updV, part']
  by_cases e : j = k
  ·simp [e]
  ·by_cases e2 : j < k
   ·simp [e, e2]
   ·simp [e, e2]
 ·by_cases e : i = k
  ·subst e
   simp only [if_true]
   exact ⟨by omega, by omega, hr.other _ _ (by simp; omega)⟩
  ·have hl : i < k := by omega
   simp only [if_neg e]
   exact ⟨(h.rows i hl).1, (h.rows i hl).2.1, ((h.rows i hl).2.2.below hb (h.rows i hl).2.2.lt).other _ _ (by simpa using (h.rows i hl).2.1)⟩
set_option maxHeartbeats 1000000 in
theorem mtimes_any (U V : Nat → Nat → Nat) (G1 G2 : Nat → Nat) (b1 m r b2 c : Nat) (w : World) (hm : m ≤ 1000) (hr0 : 0 < r) (hr : r ≤ 1000) (hcc : c ≤ 140737488351232) (hU : ∀ i j, U i j < 256) (hV : ∀ i j, V i j < 256) (h1 : Mat w b1 m r U G1) (h2 : Mat w b2 r c V G2) :
  Calls Tryz.prog 273 #[.slice (some ⟨b1, 0, none⟩) m m, .slice (some ⟨b2, 0, none⟩) r r] w fun e w' => ∃ G, e = .returned (.slice (some ⟨w.heap.size, 0, none⟩) m m) ∧ MatP w' w.heap.size w.heap.size m m c (fun i j => sm (U i) V j r) G ∧ Below w.heap.size w w' := by
 have H1 : Hid _ := h1
 have H2 : Hid _ := h2
 have HU : Hid _ := hU
 have HV : Hid _ := hV
 clear h1 h2 hU hV
 have hmk := run_make_row' (P := Tryz.prog) 389 390 (.slice none 0 0) 24 Tryz.underlying389 info53 rfl .i64 .i64 m (by omega) (by omega)
 go_enter Tryz.func273, Tryz.ntmps273
 go_wp2
 go_loopw [13] (fun iv wr => ∃ i G, i ≤ m ∧ iv = .int .i64 (i : Nat) ∧ MatP wr w.heap.size w.heap.size m i c (fun i j => sm (U i) V j r) G ∧ Below w.heap.size w wr) (fun iv _ => m - (intOf iv).toNat)
 case atStart => exact ⟨0, fun _ => 0, by omega, rfl, ⟨(Rw.made w m 390 (.slice none 0 0)).to (fun j _ => (part_0 _ _ j).symm), fun i hi => by omega⟩, (Below.refl _ _).alloc (Nat.le_refl _) _⟩
 case round =>
  obtain ⟨i, G, hi, rfl, hM, hb⟩ := hrel
  by_cases hlt : i < m
  ·have hA := Mat.below H1.out hb
   have hBm := Mat.below H2.out hb
   have c1 := hA.top i hlt
   have hrow := hA.rows i hlt
   have HRow : Hid _ := hrow
   have HBm : Hid _ := hBm
   clear hA hBm hrow
   go_wp2_with fail
   refine (weighted_any (U i) V G2 b2 r c (G1 i) r wr hr0 hr hcc (HU.out i) HV.out HBm.out HRow.out.2 HRow.out.1).mono ?_
   rintro e w2 ⟨rfl, hR2, hB2⟩
   have hM2 := hM.step hB2 wr.heap.size (Nat.le_refl _) hb.size hR2
   have c2 := (hM.top.below hB2 hM.top.lt).cell i hlt
   have c3 := (hM.top.below hB2 hM.top.lt).free i
   have hbb := (hb.trans (hB2.mono hb.size)).setCell (p := ⟨w.heap.size, i, none⟩) (Nat.le_refl _) (.slice (some ⟨wr.heap.size, 0, none⟩) c c)
   have HM2 : Hid _ := hM2
   clear hM2 hR2
   go_wp2
   go_roundw
   case rel => exact ⟨i + 1, _, by omega, by go_num, HM2.out, hbb⟩
   case measure => simp [intOf]; omega
  ·have e : i = m := by omega
   subst e
   go_wp2
   go_ret
   exact ⟨G, rfl, hM, hb⟩
set_option maxRecDepth 100000
def Pts (w : World) (v : Value) (n : Nat) (q : Nat → Nat) : Prop := (v = .slice none 0 0 ∧ n = 0) ∨ ∃ b cap, v = .slice (some ⟨b, 0, none⟩) n cap ∧ b < w.heap.size ∧ Cl w b n (pI q)
theorem Pts.below {w w' : World} {v : Value} {n : Nat} {q : Nat → Nat} (h : Pts w v n q) (hb : Below w.heap.size w w') : Pts w' v n q := by
 rcases h with h | ⟨b, cap, h1, h2, h3⟩
 ·exact .inl h
 ·exact .inr ⟨b, cap, h1, Nat.lt_of_lt_of_le h2 hb.size, h3.below hb h2⟩
theorem numbers_at (p : Nat → Nat) (n : Nat) (v : Value) (w : World) (hn : n ≤ 1000) (hp : ∀ i, i < n → p i < 256) (h : Pts w v n p) :
  Calls Tryz.prog 272 #[v] w fun e w' => e = .returned (.slice (some ⟨w.heap.size, 0, none⟩) n n) ∧ Rw w' w.heap.size n 393 (nb p) ∧ Below w.heap.size w w' := by
 rcases h with ⟨rfl, rfl⟩ | ⟨b, cap, rfl, hb, hc⟩
 ·exact (numbers_nil w).mono fun e w' h => ⟨h.1, h.2.1.to (fun j hj => by omega), h.2.2⟩
 ·exact numbers_any p b n cap w hn hp hb hc
def tI (S : Nat → ByteArray) : Nat → Value := fun i => .string (S i)
def vl (p q : Nat → Nat) (r c : Nat) (S : Nat → ByteArray) (i : Nat) : ByteArray := txtN c (fun j => sm (wt p r (q i)) (fun k j => bN (S k) j) j r)
set_option maxHeartbeats 1000000 in
theorem values_any (p q : Nat → Nat) (S : Nat → ByteArray) (r m c b cap : Nat) (vf vt : Value) (w : World) (hr0 : 0 < r) (hr : r ≤ 1000) (hm : m ≤ 1000) (hc : c ≤ 140737488351232) (hS : ∀ i, i < r → (S i).size = c) (hp : ∀ i, i < r → p i < 256) (hq : ∀ i, i < m → q i < 256)
  (hb : b < w.heap.size) (hC : Cl w b r (tI S)) (hf : Pts w vf r p) (ht : Pts w vt m q) :
  Calls Tryz.prog 231 #[.slice (some ⟨b, 0, none⟩) r cap, vf, vt] w fun e w' => ∃ g, e = .returned (.slice (some ⟨g, 0, none⟩) m m) ∧ w.heap.size ≤ g ∧ Rw w' g m 9 (tI (vl p q r c S)) ∧ Below w.heap.size w w' := by
 have HS : Hid _ := hS
 have HP : Hid _ := hp
 have HQ : Hid _ := hq
 have HC : Hid _ := hC
 have HF : Hid _ := hf
 have HT : Hid _ := ht
 clear hS hp hq hC hf ht
 have hmk := run_make_row' (P := Tryz.prog) 389 390 (.slice none 0 0) 24 Tryz.underlying389 info53 rfl .i64 .i64 r (by omega) (by omega)
 have hmk2 := run_make_row' (P := Tryz.prog) 42 9 (.string ⟨#[]⟩) 16 Tryz.underlying42 info9 rfl .i64 .i64 m (by omega) (by omega)
 go_enter Tryz.func231, Tryz.ntmps231
 go_wp2
 go_loopw [19] (fun iv wr => ∃ i G, i ≤ r ∧ iv = .int .i64 (i : Nat) ∧ MatP wr w.heap.size w.heap.size r i c (fun k j => bN (S k) j) G ∧ Below w.heap.size w wr) (fun iv _ => r - (intOf iv).toNat)
 case atStart => exact ⟨0, fun _ => 0, by omega, rfl, ⟨(Rw.made w r 390 (.slice none 0 0)).to (fun j _ => (part_0 _ _ j).symm), fun i hi => by omega⟩, (Below.refl _ _).alloc (Nat.le_refl _) _⟩
 case round =>
  obtain ⟨i, G, hi, rfl, hM, hbl⟩ := hrel
  by_cases hlt : i < r
  ·have c1 : wr.cell? ⟨b, i, none⟩ = some (.string (S i)) := Cl.below HC.out hbl hb i hlt
   have hSi := HS.out i hlt
   have hSl : (S i).size ≤ 140737488351232 := by omega
   have HSi : Hid _ := hSi
   clear hSi
   go_wp2_with fail
   refine (row_any (S i) wr hSl).mono ?_
   rintro e w2 ⟨rfl, hR2, hB2⟩
   rw [HSi.out] at hR2 ⊢
   have hM2 := hM.step hB2 wr.heap.size (Nat.le_refl _) hbl.size hR2
   have c2 := (hM.top.below hB2 hM.top.lt).cell i hlt
   have c3 := (hM.top.below hB2 hM.top.lt).free i
   have hbb := (hbl.trans (hB2.mono hbl.size)).setCell (p := ⟨w.heap.size, i, none⟩) (Nat.le_refl _) (.slice (some ⟨wr.heap.size, 0, none⟩) c c)
   have HM2 : Hid _ := hM2
   clear hM2 hR2
   go_wp2
   go_roundw
   case rel => exact ⟨i + 1, _, by omega, by go_num, HM2.out, hbb⟩
   case measure => simp [intOf]; omega
  ·have e : i = r := by omega
   subst e
   have hMat := hM.mat
   have HMat : Hid _ := hMat
   clear hMat
   have hF1 := Pts.below HF.out hbl
   go_wp2_with fail
   refine (numbers_at p i vf wr (by omega) HP.out hF1).mono ?_
   rintro e w2 ⟨rfl, hN2, hB2⟩
   have hT2 := (Pts.below HT.out hbl).below hB2
   go_wp2_with fail
   refine (numbers_at q m vt w2 hm HQ.out hT2).mono ?_
   rintro e w3 ⟨rfl, hN3, hB3⟩
   have hN2' := hN2.below hB3 hN2.lt
   go_wp2_with fail
   refine (interp_any p q wr.heap.size i i w2.heap.size m m w3 (by omega) hm HP.out HQ.out hN2'.lt hN3.lt hN2'.cl hN3.cl).mono ?_
   rintro e w4 ⟨g4, G4, rfl, hg4, hM4, hB4⟩
   have hMV := ((HMat.out.below hB2).below hB3).below hB4
   go_wp2_with fail
   refine (mtimes_any (fun k => wt p i (q k)) (fun k j => bN (S k) j) G4 G g4 m i w.heap.size c w4 hm hr0 (by omega) hc (fun k j => wt_lt p i (q k) j) (fun k j => bN_lt (S k) j) hM4.mat hMV).mono ?_
   rintro e w5 ⟨G5, rfl, hM5, hB5⟩
   have hb5 : Below w.heap.size w w5 := (((hbl.trans (hB2.mono hbl.size)).trans (hB3.mono (Nat.le_trans hbl.size hB2.size))).trans (hB4.mono (Nat.le_trans hbl.size (Nat.le_trans hB2.size hB3.size)))).trans (hB5.mono (Nat.le_trans hbl.size (Nat.le_trans hB2.size (Nat.le_trans hB3.size hB4.size))))
   obtain ⟨g, hg⟩ : ∃ g, g = w4.heap.size := ⟨_, rfl⟩
   rw [← hg] at hM5 ⊢
   have hM5m := hM5.mat
   have HM5 : Hid _ := hM5m
   clear hM5m hg hN2 hB2 hN3 hB3 hN2' hM4 hB4 hMV hB5 hM5 hT2 hF1 hM HMat hbl
   go_wp2
   go_loopw [42] (fun kv wr => ∃ k : Nat, k ≤ m ∧ kv = .int .i64 k ∧ Below w5.heap.size w5 wr ∧ Rw wr w5.heap.size m 9 (part' k (tI (vl p q i c S)) (.string ⟨#[]⟩))) (fun kv _ => m - (intOf kv).toNat)
   case atStart => exact ⟨0, by omega, rfl, (Below.refl _ _).alloc (Nat.le_refl _) _, (Rw.made w5 m 9 (.string ⟨#[]⟩)).to (fun j _ => (part_0 _ _ j).symm)⟩
   case round =>
    obtain ⟨k, hk, rfl, hbk, hRk⟩ := hrel
    by_cases hlk : k < m
    ·have hMk := HM5.out.below hbk
     have c1 := hMk.top k hlk
     have hrow := hMk.rows k hlk
     have HRow : Hid _ := hrow
     clear hMk hrow
     go_wp2_with fail
     refine (text_any _ (G5 k) c c wr hc HRow.out.2 HRow.out.1).mono ?_
     rintro e w6 ⟨rfl, hB6⟩
     have hR6 := hRk.below hB6 hRk.lt
     have c2 := hR6.cell k hlk
     have c3 := hR6.free k
     have hbb := (hbk.trans (hB6.mono hbk.size)).setCell (p := ⟨w5.heap.size, k, none⟩) (Nat.le_refl _) (.string (vl p q i c S k))
     have hRR := (hR6.put k (.string (vl p q i c S k))).to (fun j _ => part_step k (tI (vl p q i c S)) (.string ⟨#[]⟩) j)
     have HRR : Hid _ := hRR
     clear hRR
     go_wp2
     go_roundw
     case rel => exact ⟨k + 1, by omega, by go_num, hbb, HRR.out⟩
     case measure => simp [intOf]; omega
    ·have e : k = m := by omega
     subst e
     go_wp2
     go_ret
     exact ⟨w5.heap.size, rfl, hb5.size, hRk.to (fun j hj => by simp [part', hj]), hb5.trans (hbk.mono hb5.size)⟩
set_option maxHeartbeats 400000 in
theorem checkParams_ok (k m : Nat) (w : World) (hk1 : 1 ≤ k) (hkm : k + m ≤ 255) :
  Calls Tryz.prog 190 #[.int .i64 k, .int .i64 m] w fun e w' => e = .returned .nilIface ∧ w' = w := by
 have h1 : (1 : Int) ≤ (k : Int) := by omega
 have h2 : (k : Int) ≤ 255 := by omega
 have h3 : (0 : Int) ≤ (m : Int) := by omega
 have h4 : (m : Int) ≤ 255 - (k : Int) := by omega
 go_enter Tryz.func190, Tryz.ntmps190
 go_wp2
 go_ret
 exact ⟨rfl, rfl⟩
theorem cells5 : Tryz.prog.cellsOf 5 = 1 := by kernel_rfl
theorem size5 : (Tryz.prog.info? 5).map (·.size) = some 1 := by kernel_rfl
set_option maxHeartbeats 1000000 in
set_option maxRecDepth 100000 in
theorem clone_any (s : ByteArray) (w : World) (hs : s.size ≤ 140737488351232) :
  Calls Tryz.prog 196 #[.string s] w fun e w' => e = .returned (.string s) ∧ Below w.heap.size w w' := by
 by_cases h0 : s.size = 0
 ·obtain rfl : s = ⟨#[]⟩ := ByteArray.ext (Array.eq_empty_of_size_eq_zero h0)
  go_enter Tryz.func196, Tryz.ntmps196
  go_wp2
  go_ret
  exact ⟨rfl, Below.refl _ _⟩
 ·have hmk := run_make_row' (P := Tryz.prog) 165 5 (.int .u8 0) 1 Tryz.underlying165 info5 rfl .i64 .i64 s.size (by omega) (by omega)
  obtain ⟨M, hM⟩ : ∃ M, M = madeCells #[Value.int .u8 0] s.size := ⟨_, rfl⟩
  have hMs : M.size = s.size := by rw [hM, size_madeCells]
  rw [← hM] at hmk
  clear hM
  have hcp := Lib.run_copy_row_string (P := Tryz.prog) (w.alloc (.cells M 5)) 165 9 3 5 w.heap.size 0 s.size s.size s M 5 Tryz.underlying165 size5 (heap_alloc_new w _) (Nat.le_refl _) (by omega)
  obtain ⟨Y, hY⟩ : ∃ Y, Y = (M.toList.take 0 ++ Lib.byteCells s.data.toList ++ M.toList.drop (0 + s.size)).toArray := ⟨_, rfl⟩
  rw [← hY] at hcp
  have hYl : Y.toList = Lib.byteCells s.data.toList := by
   rw [hY, List.toList_toArray, List.take_zero, List.nil_append, List.drop_of_length_le (by rw [Array.length_toList]; omega), List.append_nil]
  have hYs : Y.size = s.size := by rw [← Array.length_toList, hYl, Lib.byteCells_length]; simp
  have hgY : ((w.alloc (.cells M 5)).setRow w.heap.size Y).heap[w.heap.size]? = some (.cells Y 5 (0, 0)) := setRow_heap _ _ M _ 5 (0, 0) (heap_alloc_new w _)
  have hsl : s.data.toList.length = s.size := by simp
  have hus := Lib.run_unsafeString_row (P := Tryz.prog) ((w.alloc (.cells M 5)).setRow w.heap.size Y) 352 3 9 5 Tryz.underlying352 cells5 w.heap.size Y.size (by unfold World.shape?; rw [hgY]) s.data.toList (fun e => h0 (by rw [← hsl, e]; rfl)) (by omega) (by omega)
   (fun j x hx => by
    have hadd : (⟨w.heap.size, 0, none⟩ : Addr).add j = ⟨w.heap.size, j, none⟩ := by unfold Addr.add; split <;> simp_all
    rw [hadd, cell_of_row _ _ _ _ 5 (0, 0) hgY, ← Array.getElem?_toList, hYl]
    simp [Lib.byteCells, hx])
  rw [hsl] at hus
  clear hY hYl hYs hsl
  have hB : Below w.heap.size w ((w.alloc (.cells M 5)).setRow w.heap.size Y) := ((Below.refl _ w).alloc (Nat.le_refl _) _).trans ⟨rfl, rfl, rfl, by simp, fun k hk => setRow_other _ _ _ _ (by omega)⟩
  go_enter Tryz.func196, Tryz.ntmps196
  go_wp2
  go_ret
  exact ⟨rfl, Lib.below_freeze hB (p := ⟨w.heap.size, 0, none⟩) (Nat.le_refl _) _⟩
set_option maxHeartbeats 400000 in
theorem sclone_any (s : ByteArray) (w : World) (hs : s.size ≤ 140737488351232) :
  Calls Tryz.prog 150 #[.string s] w fun e w' => e = .returned (.string s) ∧ Below w.heap.size w w' := by
 have H : Hid _ := clone_any s w hs
 go_enter Tryz.func150, Tryz.ntmps150
 go_wp2_with fail
 refine Calls.mono H.out ?_
 rintro e w1 ⟨rfl, hB⟩
 go_wp2
 go_ret
 exact ⟨rfl, hB⟩
def absN (c : Int) : Nat := if c < 0 then (-(c + 1)).toNat else c.toNat
def pk (c : Int) (n : Nat) : Nat := absN c % n
def vb : Nat → Nat → List Nat
 | 0, n => [n]
 | f + 1, n => if n < 128 then [n] else (n % 128 + 128) :: vb f (n / 128)
theorem vb_len : ∀ f n, (vb f n).length ≤ f + 1
 | 0, n => by simp [vb]
 | f + 1, n => by
  rw [vb]
  have := vb_len f (n / 128)
  split
  ·simp
  ·simp; omega
def vint (n : Nat) : ByteArray := strOfNums ((vb 4 n).map fun x => ((x : Nat) : Int))
theorem vint_size (n : Nat) : (vint n).size ≤ 5 := by
 unfold vint
 rw [strOfNums_size, List.length_map]
 exact vb_len 4 n
theorem own_shape {w : World} {base : Nat} {e : TypeId} {size : Nat} {v : Value} {n : Nat} {xs : List Value} (h : w.ownsRow base e size v n xs) : ∃ a cap, v = .slice a n cap := by
 rcases h.2 with ⟨rfl, rfl⟩ | ⟨g, cap, cur, rfl, _⟩
 ·exact ⟨none, 0, rfl⟩
 ·exact ⟨_, _, rfl⟩
theorem own_lt {w : World} {base : Nat} {e : TypeId} {size : Nat} {v : Value} {n : Nat} {xs : List Value} (h : w.ownsRow base e size v n xs) : ∀ r, v.ownBlock = some r → r < w.heap.size := by
 intro r hr
 rcases h.2 with ⟨rfl, _⟩ | ⟨g, cap, cur, rfl, _, hg, _⟩
 ·cases hr
 ·cases hr; exact (Array.getElem?_eq_some_iff.1 hg).1
theorem own_ge {w : World} {base : Nat} {e : TypeId} {size : Nat} {v : Value} {n : Nat} {xs : List Value} (h : w.ownsRow base e size v n xs) : ∀ g, v.ownBlock = some g → base ≤ g := by
 intro g hg
 rcases h.2 with ⟨rfl, _⟩ | ⟨g', cap, cur, rfl, hb, _⟩
 ·simp [Value.ownBlock] at hg
 ·simp [Value.ownBlock] at hg; omega
set_option maxHeartbeats 1000000
def pc (s : ByteArray) (z i : Nat) : ByteArray := s.extract (i * z) ((i + 1) * z)
theorem pc_size (s : ByteArray) (z c i : Nat) (hs : s.size = c * z) (hi : i < c) : (pc s z i).size = z := by
 unfold pc
 rw [ByteArray.size_extract]
 have h1 : (i + 1) * z ≤ c * z := Nat.mul_le_mul_right z (by omega)
 rw [Nat.min_eq_left (by omega), Nat.succ_mul]
 omega
def tX (S : Nat → ByteArray) : Nat → Value := fun i => .string (S i)
theorem wrap_div (p V : Nat) (hp : p ≤ 1000000000000) : wrap64 ((p : Int) / (V : Int)) = ((p / V : Nat) : Int) := by
 have h : p / V ≤ p := Nat.div_le_self p V
 rw [← Int.natCast_ediv]
 obtain ⟨q, hq⟩ : ∃ q, p / V = q := ⟨_, rfl⟩
 rw [hq] at h ⊢
 unfold wrap64
 omega
theorem share_any (V n v : Nat) (w : World) (hV : 0 < V) (hV2 : V ≤ 1000) (hn : n ≤ 100000) (hv : v ≤ 1000) :
  Calls Tryz.prog 185 #[.int .i64 V, .int .i64 n, .int .i64 v] w fun e w' => e = .returned (.tuple #[.int .i64 ((v * n / V : Nat) : Int), .int .i64 (((v + 1) * n / V : Nat) : Int)]) ∧ ∃ q, w' = w.drewN q := by
 have h1 : v * n ≤ 100000000 := Nat.le_trans (Nat.mul_le_mul hv hn) (by omega)
 have h2 : (v + 1) * n ≤ 200000000 := Nat.le_trans (Nat.mul_le_mul (Nat.add_le_add_right hv 1) hn) (by omega)
 obtain ⟨p, hp⟩ : ∃ p, v * n = p := ⟨_, rfl⟩
 obtain ⟨p2, hp2⟩ : ∃ p2, (v + 1) * n = p2 := ⟨_, rfl⟩
 have e1 : (v : Int) * (n : Int) = ((p : Nat) : Int) := by rw [← hp]; simp
 have e2 : ((v : Int) + 1) * (n : Int) = ((p2 : Nat) : Int) := by rw [← hp2]; simp
 have hV0 : ((V : Int) == 0) = false := by simp; omega
 rw [hp] at h1 ⊢
 rw [hp2] at h2 ⊢
 clear hp hp2
 have d1 := wrap_div p V (by omega)
 have d2 := wrap_div p2 V (by omega)
 go_enter Tryz.func185, Tryz.ntmps185
 go_wp2
 go_quiet (fail)
 go_wp2
 go_ret2
 refine ⟨?_, nq, rfl⟩
 show Ending.returned (.tuple #[.int .i64 (wrap64 ((p : Int) / (V : Int))), .int .i64 (wrap64 ((p2 : Int) / (V : Int)))]) = _
 rw [d1, d2]
theorem cut_any (s : ByteArray) (z c : Nat) (w : World) (hz : 0 < z) (hz2 : z ≤ 100000) (hc : c ≤ 100000) (hs : s.size = c * z) :
  Calls Tryz.prog 203 #[.string s, .int .i64 z] w fun e w' => e = .returned (.slice (some ⟨w.heap.size, 0, none⟩) c c) ∧ Rw w' w.heap.size c 9 (tX (pc s z)) ∧ Below w.heap.size w w' := by
 have hsz : s.size ≤ 10000000000 := by rw [hs]; exact Nat.le_trans (Nat.mul_le_mul hc hz2) (by omega)
 have hq0 : s.size / z = c := by rw [hs]; exact Nat.mul_div_cancel _ hz
 have hd := wrap_div s.size z (by omega)
 rw [hq0] at hd
 have hz0 : ((z : Int) == 0) = false := by simp; omega
 have hmk := run_make_row' (P := Tryz.prog) 42 9 (.string ⟨#[]⟩) 16 Tryz.underlying42 info9 rfl .i64 .i64 c (by omega) (by omega)
 have HS : Hid _ := hs
 clear hs hq0
 go_enter Tryz.func203, Tryz.ntmps203
 go_wp2
 go_loopw [14] (fun iv wr => ∃ i : Nat, i ≤ c ∧ iv = .int .i64 i ∧ Below w.heap.size w wr ∧ Rw wr w.heap.size c 9 (part' i (tX (pc s z)) (.string ⟨#[]⟩))) (fun iv _ => c - (intOf iv).toNat)
 case atStart => exact ⟨0, by omega, rfl, (Below.refl _ _).alloc (Nat.le_refl _) _, (Rw.made w c 9 (.string ⟨#[]⟩)).to (fun j _ => (part_0 _ _ j).symm)⟩
 case round =>
  obtain ⟨i, hi, rfl, hb, hR⟩ := hrel
  by_cases hlt : i < c
  ·have c1 := hR.cell i hlt
   have c2 := hR.free i
   have hle : (i + 1) * z ≤ s.size := by rw [HS.out]; exact Nat.mul_le_mul_right z (by omega)
   have hll : i * z ≤ (i + 1) * z := Nat.mul_le_mul_right z (by omega)
   obtain ⟨lo, hlo⟩ : ∃ lo, i * z = lo := ⟨_, rfl⟩
   obtain ⟨up, hup⟩ : ∃ up, (i + 1) * z = up := ⟨_, rfl⟩
   have e1 : (i : Int) * (z : Int) = ((lo : Nat) : Int) := by rw [← hlo]; simp
   have e2 : ((i : Int) + 1) * (z : Int) = ((up : Nat) : Int) := by rw [← hup]; simp
   rw [hlo, hup] at hll
   rw [hup] at hle
   have HPC : Hid (pc s z i = s.extract lo up) := by show pc s z i = s.extract lo up; unfold pc; rw [hlo, hup]
   clear hlo hup
   have hsl : ∀ W, (Instr.slice 9 (.string s) (some (.int .i64 ((lo : Nat) : Int))) (some (.int .i64 ((up : Nat) : Int))) none).run Tryz.prog W = .ok (.string (s.extract lo up)) W := fun W => by
    rw [run_slice_string W 9 s .i64 .i64 _ _ Tryz.underlying9 (by omega) (by omega) (by omega), Int.toNat_natCast, Int.toNat_natCast]
   have hc' : (i : Int) < (c : Int) := by omega
   go_wp2
   go_roundw
   case rel => exact ⟨i + 1, by omega, by go_num, hb.setCell (Nat.le_refl _) _, (hR.put i _).to (fun j _ => by rw [← HPC.out, ← part_step]; rfl)⟩
   case measure => simp [intOf]; omega
  ·have e : i = c := by omega
   subst e
   go_wp2
   go_ret
   exact ⟨rfl, hR.to (fun j hj => by simp [part', hj]), hb⟩
def nst (z len : Nat) : Nat := (len + z - 1) / z
theorem countStripes_any (K M C V len z : Nat) (w : World) (hz : K * C = z) (hz0 : 0 < z) (hz1 : z ≤ 100000) (hl : len ≤ 100000) :
  Calls Tryz.prog 197 #[.agg #[.int .i64 K, .int .i64 M, .int .i64 C, .int .i64 V], .int .i64 len] w fun e w' => e = .returned (.int .i64 (nst z len : Nat)) ∧ Below w.heap.size w w' := by
 have e1 : (K : Int) * (C : Int) = (z : Int) := by rw [← hz]; simp
 have e2 : (len : Int) + (z : Int) - 1 = ((len + z - 1 : Nat) : Int) := by omega
 have d1 : ((len : Int) + (z : Int) - 1) / (z : Int) = (((len + z - 1) / z : Nat) : Int) := by rw [e2, Int.natCast_ediv]
 have hne : ((z : Int) == 0) = false := by simp; omega
 unfold nst
 have D1 : Hid _ := d1
 clear hz e2 d1
 go_enter Tryz.func197, Tryz.ntmps197
 go_wp2
 go_ret
 refine ⟨?_, (Below.refl _ _).alloc (Nat.le_refl _) _⟩
 show Ending.returned (.int .i64 (((len : Int) + (z : Int) - 1) / (z : Int))) = _
 rw [D1.out]
theorem countBlocks_any (K M C V len z : Nat) (w : World) (hz : K * C = z) (hz0 : 0 < z) (hz1 : z ≤ 100000) (hl : len ≤ 100000) (hK : K ≤ 1000) (hM : M ≤ 1000) :
  Calls Tryz.prog 154 #[.agg #[.int .i64 K, .int .i64 M, .int .i64 C, .int .i64 V], .int .i64 len] w fun e w' => e = .returned (.int .i64 (nst z len * (K + M) : Nat)) ∧ Below w.heap.size w w' := by
 have H : Hid (∀ W, _) := fun W => countStripes_any K M C V len z W hz hz0 hz1 hl
 have hns : nst z len ≤ 200000 := Nat.le_trans (Nat.div_le_self _ _) (by omega)
 obtain ⟨n, hn⟩ : ∃ n, nst z len = n := ⟨_, rfl⟩
 rw [hn] at H hns ⊢
 have h1 : n * (K + M) ≤ 400000000 := Nat.le_trans (Nat.mul_le_mul hns (show K + M ≤ 2000 by omega)) (by omega)
 obtain ⟨r, hr⟩ : ∃ r, n * (K + M) = r := ⟨_, rfl⟩
 have e1 : (n : Int) * ((K : Int) + (M : Int)) = (r : Int) := by rw [← hr]; simp
 rw [hr] at h1 ⊢
 clear hn hr hz
 go_enter Tryz.func154, Tryz.ntmps154
 go_wp2
 obtain ⟨s0, hs0⟩ : ∃ s0, s0 = w.alloc (Obj.cells #[Value.int IntKind.i64 K, Value.int IntKind.i64 M, Value.int IntKind.i64 C, Value.int IntKind.i64 V] 23) := ⟨_, rfl⟩
 have hO : s0.heap[w.heap.size]? = some (.cells #[.int .i64 K, .int .i64 M, .int .i64 C, .int .i64 V] 23 (0, 0)) := by rw [hs0]; exact heap_alloc_new _ _
 have HB0 : Hid (Below w.heap.size w s0) := by show Below _ _ _; rw [hs0]; exact (Below.refl _ _).alloc (Nat.le_refl _) _
 rw [← hs0]
 clear hs0
 obtain ⟨x, hx⟩ : ∃ x, x = w.heap.size := ⟨_, rfl⟩
 rw [← hx] at hO ⊢
 have HX : Hid _ := hx
 clear hx
 have c0 : s0.cell? ⟨x, 0, none⟩ = some (.int .i64 K) := cell_of_row _ _ _ _ 23 _ hO
 have c1 : s0.cell? ⟨x, 1, none⟩ = some (.int .i64 M) := cell_of_row _ _ _ _ 23 _ hO
 have c2 : s0.cell? ⟨x, 2, none⟩ = some (.int .i64 C) := cell_of_row _ _ _ _ 23 _ hO
 have c3 : s0.cell? ⟨x, 3, none⟩ = some (.int .i64 V) := cell_of_row _ _ _ _ 23 _ hO
 clear hO
 go_region_held3 (fun w' => w'.cell? ⟨x, 0, none⟩ = some (.int .i64 K) ∧ w'.cell? ⟨x, 1, none⟩ = some (.int .i64 M) ∧ w'.cell? ⟨x, 2, none⟩ = some (.int .i64 C) ∧ w'.cell? ⟨x, 3, none⟩ = some (.int .i64 V)) (go_keep) (first | (go_at_call 197; refine Calls.mono (H.out _) ?_; rintro e r1 ⟨rfl, hb1⟩; have hxl := block_lt_of_cell c0; have d0 : r1.cell? ⟨x, 0, none⟩ = some (.int .i64 K) := (hb1.cell (p := ⟨x, 0, none⟩) hxl).trans c0; have d1 : r1.cell? ⟨x, 1, none⟩ = some (.int .i64 M) := (hb1.cell (p := ⟨x, 1, none⟩) hxl).trans c1; have d2 : r1.cell? ⟨x, 2, none⟩ = some (.int .i64 C) := (hb1.cell (p := ⟨x, 2, none⟩) hxl).trans c2; have d3 : r1.cell? ⟨x, 3, none⟩ = some (.int .i64 V) := (hb1.cell (p := ⟨x, 3, none⟩) hxl).trans c3))
 go_wp2
 go_ret
 have a1 : IntKind.i64.wrap ((K : Int) + (M : Int)) = (K : Int) + (M : Int) := by rw [IntKind.wrap_i64]; omega
 have a2 : IntKind.i64.wrap (r : Int) = (r : Int) := by rw [IntKind.wrap_i64]; omega
 refine ⟨?_, ?_⟩
 ·show Ending.returned (.int .i64 (IntKind.i64.wrap ((n : Int) * IntKind.i64.wrap ((K : Int) + (M : Int))))) = _
  rw [a1, e1, a2]
 ·have hb2 : Below s0.heap.size s0 r1 := by first | exact hb1 | exact ((Below.refl _ _).drew).trans hb1
  exact HB0.out.trans (hb2.mono HB0.out.size)
end Go.Proofs.YtadinjaocnlglaaGreatDoor
