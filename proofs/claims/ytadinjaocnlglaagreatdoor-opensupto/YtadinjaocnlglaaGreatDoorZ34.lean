/-
  The document's Cursor: rest.
  The document's read, as data: which refusal comes where.
-/
import Derived.Test.YtadinjaocnlglaaGreatDoorZ33
import Derived.Test.YtadinjaocnlglaaGreatDoorZ20
import Derived.Test.YtadinjaocnlglaaGreatDoorZ30
import Derived.Test.YtadinjaocnlglaaGreatDoorZ32
import Derived.Test.YtadinjaocnlglaaGreatDoorZ16
import Derived.Test.YtadinjaocnlglaaGreatDoorZ31
namespace Go.Proofs.YtadinjaocnlglaaGreatDoor
open Go.RowKit
set_option maxRecDepth 100000
set_option maxHeartbeats 4000000
structure CRest (w0 : World) (c h : Nat) (R : Option (Nat × Nat)) (d : HD) (f n : Nat) (v : Value) (w' : World) : Prop where
 bel : Below w0.heap.size w0 w'
 bad : ∀ k p, R = some (k, p) → w'.ownsRow w0.heap.size 250 2 v 1 (mkL [((k : Int), (p : Int))])
 good : R = none → v = .slice none 0 0 ∧ ∃ vB st', HI w0 c h st' { d with first := f, vB := vB, nb := n } w'
theorem CRest.no {w0 : World} {c h : Nat} {R : Option (Nat × Nat)} {d : HD} {f n k p : Nat} {v : Value} {w' : World} (e : R = some (k, p)) (hb : Below w0.heap.size w0 w') (ho : w'.ownsRow w0.heap.size 250 2 v 1 (mkL [((k : Int), (p : Int))])) : CRest w0 c h R d f n v w' :=
 ⟨hb, fun k' p' e' => by rw [e] at e'; cases e'; exact ho, fun e' => by rw [e] at e'; cases e'⟩
theorem CRest.yes {w0 : World} {c h : Nat} {R : Option (Nat × Nat)} {d : HD} {f n : Nat} {w' : World} {vB : Value} {st' : RS} (e : R = none) (hI : HI w0 c h st' { d with first := f, vB := vB, nb := n } w') : CRest w0 c h R d f n (.slice none 0 0) w' :=
 ⟨hI.bel, fun k p e' => by rw [e] at e'; (cases e'), fun _ => ⟨rfl, vB, st', hI⟩⟩
theorem at_marks (k i : Int) (w0 w : World) (hb : Below w0.heap.size w0 w) : Calls Tryz.prog 91 #[.int .i64 k, .int .i64 i] w fun e w' => ∃ v, e = .returned v ∧ w'.ownsRow w0.heap.size 250 2 v 1 (mkL [(k, i)]) ∧ Below w0.heap.size w0 w' := by
 refine Calls.mono (at_own k i w) ?_
 rintro e w' ⟨v, rfl, ho, h2⟩
 exact ⟨v, rfl, own_base ho hb.size, hb.trans (h2.mono hb.size)⟩
theorem crest (kt : Nat → Int) (w0 : World) (c h b first en : Nat) (st s5 : RS) (ck dg rt rest : ByteArray) (d : HD) (w : World) (R : Option (Nat × Nat)) (hI : HI w0 c h st d w) (hG : Gr kt w0) (hw : st.wrong = false) (hk : st.bytes 32 = (s5, ck))
  (hdg : ofT kt (⟨#[3]⟩ ++ st.text.extract 0 st.next) = dg) (hrt : ofT kt (⟨#[2]⟩ ++ lstT d.K d.M d.C d.V d.es.length (nmE d.es) (lnE d.es) ++ topT (ofT kt) d.nl d.Lf) = rt)
  (hrest : st.text.extract s5.next st.text.size = rest) (hB0 : d.nb = 0) (hBk : ∀ j, d.Bk j = pc rest d.C j)
  (hf : d.num * b / d.V = first) (he : (d.num + 1) * b / d.V = en)
  (hR : R = if s5.wrong then some (7, st.next) else if ck = dg then (if d.root = rt then (if (en - first) * d.C < rest.size then some (7, s5.next + (en - first) * d.C) else none) else some (9, 4)) else some (8, st.next))
  (hKM : d.K + d.M ≤ 255) (hC1 : 1 ≤ d.C) (hC2 : d.C ≤ 64) (hV1 : 1 ≤ d.V) (hV2 : d.V ≤ 16) (hnum : d.num < d.V) (hb2 : b ≤ 512) (hne : d.es.length ≤ 16) (hnm : ∀ j, (nmE d.es j).size ≤ 1000) (hln : ∀ j, lnE d.es j ≤ 100000)
  (hnl : ∀ i, i < d.nl → (d.Lf i).size ≤ 32) (ht : st.text.size ≤ 60000) :
  Calls Tryz.prog 135 #[.pointer (some ⟨c, 0, none⟩), .pointer (some ⟨h, 0, none⟩), .int .i64 b] w fun e w' => ∃ v, e = .returned v ∧ CRest w0 c h R d first (rest.size / d.C) v w' := by
 obtain ⟨K, M, C, V, root, vE, es, num, vL, nl, Lf, first0, vB, nb, Bk⟩ := d
 simp only [] at hrt hB0 hBk hf he hR hKM hC1 hC2 hV1 hV2 hnum hne hnm hln hnl
 subst hB0
 have hnx : st.next ≤ st.text.size := hI.cur.nt
 obtain ⟨from_, hfrom⟩ : ∃ x, st.next = x := ⟨_, rfl⟩
 obtain ⟨text, htext⟩ : ∃ x, st.text = x := ⟨_, rfl⟩
 rw [hfrom] at hdg hR hnx
 rw [htext] at hdg hrest ht hnx
 have hat : atC st = from_ := (atC_ok hw).trans hfrom
 have HI0 : Hid _ := hI
 have HG : Hid _ := hG
 have HR : Hid _ := hR
 have c1 : w.cell? ⟨c, 1, none⟩ = some (.int .i64 (atC st : Nat)) := cell_of_row _ _ _ _ 239 _ hI.cur.row
 rw [hat] at c1
 have H32 : Hid _ := ctake c st 32 w hI.cur (by decide)
 rw [hk] at H32
 have HT5 : Hid (s5.wrong = false → s5.text = text ∧ s5.next = from_ + 32 ∧ from_ + 32 ≤ text.size) := by
  intro h5
  have e5 : (st.bytes 32).1 = s5 := by rw [hk]
  rw [← htext, ← hfrom, ← e5]
  have h5' : (st.bytes 32).1.wrong = false := by rw [e5]; exact h5
  refine ⟨(bytes_adv st 32).1, ?_, ?_⟩
  ·unfold RS.bytes at h5' ⊢
   rw [hw] at h5' ⊢
   simp only [Bool.false_eq_true, if_false] at h5' ⊢
   split at h5'
   ·cases h5'
   ·rename_i hn
    rw [if_neg hn]
  ·unfold RS.bytes at h5'
   rw [hw] at h5'
   simp only [Bool.false_eq_true, if_false] at h5'
   split at h5'
   ·cases h5'
   ·rename_i hn
    rw [htext, hfrom] at hn ⊢
    omega
 have HDG : Hid (∀ X : World, Below w0.heap.size w0 X → Calls Tryz.prog 192 #[.string (⟨#[3]⟩ ++ text.extract 0 from_)] X fun e w' => e = .returned (.string dg) ∧ Below X.heap.size X w') := fun X hX => by
  rw [← hdg]
  refine rdigest_any kt _ X ?_ (hG.below hX)
  rw [ByteArray.size_append, ByteArray.size_extract]
  have : (⟨#[3]⟩ : ByteArray).size = 1 := rfl
  omega
 clear hI hG hk hdg hR hat
 go_enter Tryz.func135, Tryz.ntmps135
 go_wp2_with fail
 refine Calls.mono H32.out ?_
 rintro e w1 ⟨rfl, hD⟩
 have H1 : Hid _ := HI0.out.go hD
 have g2 : w1.cell? ⟨c, 2, none⟩ = some (.bool s5.wrong) := cell_of_row _ _ _ _ 239 _ H1.out.cur.row
 have g0 : w1.cell? ⟨c, 0, none⟩ = some (.string s5.text) := cell_of_row _ _ _ _ 239 _ H1.out.cur.row
 clear hD H32 HI0 c1
 cases hw5 : s5.wrong with
 | true =>
  rw [hw5] at g2
  clear g0
  go_wp2_with fail
  refine Calls.mono (at_marks 7 from_ w0 w1 H1.out.bel) ?_
  rintro e w2 ⟨v, rfl, ho, hB⟩
  obtain ⟨va, vc, rfl⟩ := own_shape ho
  have HO : Hid _ := ho
  have HB : Hid _ := hB
  clear ho hB
  go_wp2_with fail
  go_ret
  exact ⟨_, rfl, CRest.no (by rw [HR.out, if_pos hw5]) HB.out HO.out⟩
 | false =>
  obtain ⟨t5, n5, l5⟩ := HT5.out hw5
  rw [hw5] at g2
  rw [t5] at g0
  rw [hw5, if_neg (by simp)] at HR
  have k1 : (0 : Int) ≤ (from_ : Int) := by omega
  have k2 : (from_ : Int) ≤ (text.size : Int) := by omega
  clear HT5
  go_wp2_with fail
  refine Calls.mono (HDG.out _ H1.out.bel) ?_
  rintro e w2 ⟨rfl, hB⟩
  have H2 : Hid _ := H1.out.low hB
  clear hB HDG H1 g2 g0 k1 k2
  by_cases hcd : ck = dg
  ·rw [if_pos hcd] at HR
   have hcq := texts_eq hcd
   clear hcd
   have hoE := H2.out.oE
   have hoL := H2.out.oL
   simp only [] at hoE hoL
   obtain ⟨aE, cE, hvE⟩ := own_shape hoE
   subst hvE
   obtain ⟨aL, cL, hvL⟩ := own_shape hoL
   subst hvL
   have hhl : h < w2.heap.size := (Array.getElem?_eq_some_iff.1 H2.out.row).1
   have HV : Hid (∀ X : World, Below w2.heap.size w2 X → X.cell? ⟨h, 0, none⟩ = some (.int .i64 K) ∧ X.cell? ⟨h, 1, none⟩ = some (.int .i64 M) ∧ X.cell? ⟨h, 2, none⟩ = some (.int .i64 C) ∧ X.cell? ⟨h, 3, none⟩ = some (.int .i64 V) ∧ X.cell? ⟨h, 4, none⟩ = some (.string root) ∧ X.cell? ⟨h, 5, none⟩ = some (.slice aE es.length cE) ∧ X.cell? ⟨h, 7, none⟩ = some (.slice aL nl cL)) := fun X hX => by
    have h1 := (hX.block h hhl).trans H2.out.row
    exact ⟨cell_of_row _ _ _ _ 174 _ h1, cell_of_row _ _ _ _ 174 _ h1, cell_of_row _ _ _ _ 174 _ h1, cell_of_row _ _ _ _ 174 _ h1, cell_of_row _ _ _ _ 174 _ h1, cell_of_row _ _ _ _ 174 _ h1, cell_of_row _ _ _ _ 174 _ h1⟩
   obtain ⟨lst, hlst⟩ : ∃ x, lstT K M C V es.length (nmE es) (lnE es) = x := ⟨_, rfl⟩
   obtain ⟨rtd, hrtd⟩ : ∃ x, ⟨#[2]⟩ ++ lst ++ topT (ofT kt) nl Lf = x := ⟨_, rfl⟩
   rw [hlst, hrtd] at hrt
   have hlz : lst.size ≤ 2000000 := by rw [← hlst]; exact lstT_size _ _ _ _ _ _ _ hnm (by omega)
   have HC1 : Hid (∀ X : World, Below w2.heap.size w2 X → Calls Tryz.prog 85 #[.agg #[.int .i64 K, .int .i64 M, .int .i64 C, .int .i64 V], .slice aE es.length cE] X fun e w' => e = .returned (.string lst) ∧ Below X.heap.size X w') := fun X hX => by
    rw [← hlst]
    exact rlist_any K M C V es.length cE aE (nmE es) (lnE es) X (by omega) (by omega) (by omega) (by omega) (by omega) hnm hln (ent_cellsE rfl (own_kept hoE (fun q hq => hX.block q (own_lt hoE q hq))))
   have HC2 : Hid (∀ X : World, Below w2.heap.size w2 X → Calls Tryz.prog 86 #[.string lst, .slice aL nl cL] X fun e w' => e = .returned (.string rtd) ∧ Below X.heap.size X w') := fun X hX => by
    rw [← hrtd]
    exact rooted_own kt lst Lf nl w0.heap.size _ X (by omega) (HG.out.below (H2.out.bel.trans (hX.mono H2.out.bel.size))) hnl (own_kept hoL (fun q hq => hX.block q (own_lt hoL q hq)))
   have hrz : rtd.size ≤ 140737488351232 := by
    rw [← hrtd, ByteArray.size_append, ByteArray.size_append]
    have h1 : (⟨#[2]⟩ : ByteArray).size = 1 := rfl
    have h2 := topT_le (ofT kt) 32 (fun s => Nat.le_of_eq (ofT_size kt s)) nl Lf hnl
    omega
   have HC3 : Hid (∀ X : World, Below w2.heap.size w2 X → Calls Tryz.prog 192 #[.string rtd] X fun e w' => e = .returned (.string rt) ∧ Below X.heap.size X w') := fun X hX => by
    rw [← hrt]
    exact rdigest_any kt rtd X hrz (HG.out.below (H2.out.bel.trans (hX.mono H2.out.bel.size)))
   obtain ⟨v0, v1, v2, v3, v4, v5, v7⟩ := HV.out w2 (Below.refl _ _)
   clear hlst hrtd hrt hoE hoL hrz hlz
   go_wp2_with fail
   go_region_held3 (fun w2 => w2.cell? ⟨h, 0, none⟩ = some (.int .i64 K) ∧ w2.cell? ⟨h, 1, none⟩ = some (.int .i64 M) ∧ w2.cell? ⟨h, 2, none⟩ = some (.int .i64 C) ∧ w2.cell? ⟨h, 3, none⟩ = some (.int .i64 V) ∧ w2.cell? ⟨h, 4, none⟩ = some (.string root) ∧ w2.cell? ⟨h, 5, none⟩ = some (.slice aE es.length cE) ∧ w2.cell? ⟨h, 7, none⟩ = some (.slice aL nl cL)) (go_keep) (first | (go_at_call 85; refine Calls.mono (HC1.out _ (by first | exact Below.refl _ _ | exact (Below.refl _ _).drew)) ?_; rintro e w7 ⟨rfl, hb7⟩; have hB7 : Below w2.heap.size w2 w7 := (by first | exact hb7 | exact ((Below.refl _ _).drew).trans hb7); obtain ⟨x0, x1, x2, x3, x4, x5, x7⟩ := HV.out w7 hB7) | (go_at_call 86; refine Calls.mono (HC2.out _ hB7) ?_; rintro e w8 ⟨rfl, hb8⟩; have hB8 : Below w2.heap.size w2 w8 := (hB7.trans (hb8.mono hB7.size)); obtain ⟨y0, y1, y2, y3, y4, y5, y7⟩ := HV.out w8 hB8) | (go_at_call 192; refine Calls.mono (HC3.out _ hB8) ?_; rintro e w9 ⟨rfl, hb9⟩; have hB9 : Below w2.heap.size w2 w9 := (hB8.trans (hb9.mono hB8.size)); obtain ⟨z0, z1, z2, z3, z4, z5, z7⟩ := HV.out w9 hB9))
   have H3 : Hid _ := H2.out.low hB9
   clear v0 v1 v2 v3 v4 v5 v7 x0 x1 x2 x3 x4 x5 x7 y0 y1 y2 y3 y4 y5 y7 hB7 hB8 hb7 hb8 hb9 HC1 HC2 HC3
   by_cases hrr : root = rt
   ·rw [if_pos hrr] at HR
    have hrq : (!(root.toList == rt.toList)) = false := by rw [texts_eq hrr]; rfl
    rw [hrq]
    clear hrq hrr
    have hfe : first ≤ en := by rw [← hf, ← he]; exact Nat.div_le_div_right (Nat.mul_le_mul_right _ (by omega))
    have hec : en ≤ 512 := by rw [← he]; exact Nat.le_trans (Nat.div_le_div_right (Nat.mul_le_mul (show num + 1 ≤ V by omega) hb2)) (by rw [Nat.mul_div_cancel_left _ (by omega)]; exact Nat.le_refl _)
    have hz1 : num * b ≤ 16 * 512 := Nat.mul_le_mul (by omega) hb2
    have hz2 : (num + 1) * b ≤ 16 * 512 := Nat.mul_le_mul (by omega) hb2
    obtain ⟨Z1, hZ1⟩ : ∃ Z, num * b = Z := ⟨_, rfl⟩
    obtain ⟨Z2, hZ2⟩ : ∃ Z, (num + 1) * b = Z := ⟨_, rfl⟩
    rw [hZ1] at hz1 hf
    rw [hZ2] at hz2 he
    have e1 : (num : Int) * (b : Int) = (Z1 : Int) := by rw [← hZ1]; simp
    have e2 : ((num : Int) + 1) * (b : Int) = (Z2 : Int) := by rw [← hZ2]; simp
    have d1 : (Z1 : Int).tdiv (V : Int) = (first : Int) := by rw [Int.tdiv_eq_ediv_of_nonneg (by omega), ← hf, Int.natCast_ediv]
    have d2 : (Z2 : Int).tdiv (V : Int) = (en : Int) := by rw [Int.tdiv_eq_ediv_of_nonneg (by omega), ← he, Int.natCast_ediv]
    have u1 : IntKind.i64.wrap (Z1 : Int) = (Z1 : Int) := by rw [IntKind.wrap_i64]; omega
    have u2 : IntKind.i64.wrap (Z2 : Int) = (Z2 : Int) := by rw [IntKind.wrap_i64]; omega
    have u3 : IntKind.i64.wrap (first : Int) = (first : Int) := by rw [IntKind.wrap_i64]; omega
    have u4 : IntKind.i64.wrap (en : Int) = (en : Int) := by rw [IntKind.wrap_i64]; omega
    have u5 : IntKind.i64.wrap ((num : Int) + 1) = (num : Int) + 1 := by rw [IntKind.wrap_i64]; omega
    have hVn : ((V : Int) == 0) = false := by simp; omega
    have hV3 : ¬ (V : Int) = 0 := by omega
    have hV4 : ¬ V = 0 := by omega
    have z6 : w9.cell? ⟨h, 6, none⟩ = some (.int .i64 num) := cell_of_row _ _ _ _ 174 _ H3.out.row
    have z8 : w9.cell? ⟨h, 8, none⟩ = some (.int .i64 first0) := cell_of_row _ _ _ _ 174 _ H3.out.row
    have f8 := frozen_of_row w9 h 8 _ 174 H3.out.row
    clear z0 z1 z2 z4 z5 z7 hZ1 hZ2 hf he
    go_wp2_with fail
    go_region
    obtain ⟨W, hW⟩ : ∃ W, (w9.setCell ⟨h, 8, none⟩ (.int .i64 first)).drew = W := ⟨_, rfl⟩
    have H4 : Hid (HI w0 c h s5 ⟨K, M, C, V, root, .slice aE es.length cE, es, num, .slice aL nl cL, nl, Lf, first, vB, 0, Bk⟩ W) := by
     show HI _ _ _ _ _ _
     rw [← hW]
     exact (H3.out.set (d' := ⟨K, M, C, V, root, .slice aE es.length cE, es, num, .slice aL nl cL, nl, Lf, first, vB, 0, Bk⟩) 8 (.int .i64 first) rfl rfl rfl rfl rfl rfl rfl rfl rfl).drew
    rw [hW]
    have W8 : W.cell? ⟨h, 8, none⟩ = some (.int .i64 first) := cell_of_row _ _ _ _ 174 _ H4.out.row
    clear hW z3 z6 z8 f8 H3 d1 e1 u1
    have hrz : rest.size = text.size - (from_ + 32) := by rw [← hrest, n5, ByteArray.size_extract]; omega
    have HRX : Hid (∀ j, (from_ + 32 + j * C) + C ≤ text.size → text.extract (from_ + 32 + j * C) (from_ + 32 + j * C + C) = Bk j) := fun j hjl => by
     rw [hBk, pc, ← hrest, n5, ByteArray.extract_extract, Nat.succ_mul]
     congr 1 <;> omega
    clear hrest hBk
    go_wp2_with fail
    go_loopw [9, 10] (fun iv _ wr => ∃ (j : Nat) (vb : Value) (s' : RS), j ≤ en - first ∧ iv = .int .i64 ((first + j : Nat)) ∧ s'.wrong = false ∧ s'.text = text ∧ s'.next = from_ + 32 + j * C ∧ HI w0 c h s' ⟨K, M, C, V, root, .slice aE es.length cE, es, num, .slice aL nl cL, nl, Lf, first, vb, j, Bk⟩ wr) (fun iv _ _ => en - (intOf iv).toNat)
    case atStart => exact ⟨0, vB, s5, Nat.zero_le _, rfl, hw5, t5, by rw [n5]; simp, H4.out⟩
    case round =>
     obtain ⟨j, vb, s', hj, rfl, hw', ht', hn', hI'⟩ := hrel
     have HIJ : Hid _ := hI'
     have hnt : s'.next ≤ text.size := by rw [← ht']; exact hI'.cur.nt
     have hat' : atC s' = s'.next := atC_ok hw'
     obtain ⟨nx, hnx'⟩ : ∃ x, s'.next = x := ⟨_, rfl⟩
     rw [hnx'] at hnt hat'
     have HNX : Hid (nx = from_ + 32 + j * C) := hnx'.symm.trans hn'
     have a2 : wr.cell? ⟨h, 2, none⟩ = some (.int .i64 C) := cell_of_row _ _ _ _ 174 _ hI'.row
     have a3 : wr.cell? ⟨h, 3, none⟩ = some (.int .i64 V) := cell_of_row _ _ _ _ 174 _ hI'.row
     have a6 : wr.cell? ⟨h, 6, none⟩ = some (.int .i64 num) := cell_of_row _ _ _ _ 174 _ hI'.row
     have b0 : wr.cell? ⟨c, 0, none⟩ = some (.string s'.text) := cell_of_row _ _ _ _ 239 _ hI'.cur.row
     have b1 : wr.cell? ⟨c, 1, none⟩ = some (.int .i64 (atC s' : Nat)) := cell_of_row _ _ _ _ 239 _ hI'.cur.row
     rw [ht'] at b0
     rw [hat'] at b1
     obtain ⟨i, hi⟩ : ∃ i, first + j = i := ⟨_, rfl⟩
     rw [hi]
     clear hI' hat' hn'
     by_cases hlt : i < en
     ·have hlt' : (i : Int) < (en : Int) := by omega
      have u6 : IntKind.i64.wrap ((text.size : Int) - (nx : Int)) = (text.size : Int) - (nx : Int) := by rw [IntKind.wrap_i64]; omega
      by_cases hsh : text.size - nx < C
      ·have hsh' : (text.size : Int) - (nx : Int) < (C : Int) := by omega
       go_wp2_with fail
       go_quiet (fail)
       go_wp2_with fail
       go_quiet (fail)
       go_wp2_with fail
       go_ret
       have hnx2 := HNX.out
       have hm1 : (j + 1) * C ≤ (en - first) * C := Nat.mul_le_mul_right _ (by omega)
       have hm2 : (j + 1) * C = j * C + C := Nat.succ_mul _ _
       have hq : rest.size / C = j := Nat.div_eq_of_lt_le (by omega) (by omega)
       rw [hq]
       exact ⟨_, rfl, CRest.yes (by rw [HR.out, if_neg (by omega)]) ((HIJ.out.drewN _).drewN _)⟩
      ·have hsh' : ¬ (text.size : Int) - (nx : Int) < (C : Int) := by omega
       have HBY : Hid (s'.bytes C = (⟨text, nx, nx + C, false⟩, Bk j)) := by
        show _ = _
        have h1 := HRX.out j (by have := HNX.out; omega)
        rw [← HNX.out] at h1
        unfold RS.bytes
        rw [hw', ht', hnx', if_neg (by simp), if_neg hsh, h1]
       go_wp2_with fail
       go_quiet (fail)
       obtain ⟨W1, hW⟩ : ∃ W, wr.drewN nq = W := ⟨_, rfl⟩
       have HI1 : Hid (HI w0 c h s' ⟨K, M, C, V, root, .slice aE es.length cE, es, num, .slice aL nl cL, nl, Lf, first, vb, j, Bk⟩ W1) := by
        show HI _ _ _ _ _ _
        rw [← hW]
        exact HIJ.out.drewN _
       rw [hW]
       clear hW a2 a3 a6 b0 b1
       have a2 : W1.cell? ⟨h, 2, none⟩ = some (.int .i64 C) := cell_of_row _ _ _ _ 174 _ HI1.out.row
       have b0 : W1.cell? ⟨c, 0, none⟩ = some (.string s'.text) := cell_of_row _ _ _ _ 239 _ HI1.out.cur.row
       have b1 : W1.cell? ⟨c, 1, none⟩ = some (.int .i64 (atC s' : Nat)) := cell_of_row _ _ _ _ 239 _ HI1.out.cur.row
       rw [ht'] at b0
       rw [atC_ok hw', hnx'] at b1
       go_wp2_with fail
       go_quiet (fail)
       obtain ⟨W2, hW⟩ : ∃ W, W1.drewN nq = W := ⟨_, rfl⟩
       have HI2 : Hid (HI w0 c h s' ⟨K, M, C, V, root, .slice aE es.length cE, es, num, .slice aL nl cL, nl, Lf, first, vb, j, Bk⟩ W2) := by
        show HI _ _ _ _ _ _
        rw [← hW]
        exact HI1.out.drewN _
       rw [hW]
       clear hW a2 b0 b1
       have a2 : W2.cell? ⟨h, 2, none⟩ = some (.int .i64 C) := cell_of_row _ _ _ _ 174 _ HI2.out.row
       have HTK : Hid _ := ctake c s' C W2 HI2.out.cur (by omega)
       rw [HBY.out] at HTK
       go_wp2_with fail
       refine Calls.mono HTK.out ?_
       rintro e w5 ⟨rfl, hD⟩
       have H5 : Hid _ := HI2.out.go hD
       clear hD HTK a2
       have hob := H5.out.oB
       simp only [] at hob
       obtain ⟨ab, cb, hvb⟩ := own_shape hob
       subst hvb
       have a9 : w5.cell? ⟨h, 9, none⟩ = some (.slice ab j cb) := cell_of_row _ _ _ _ 174 _ H5.out.row
       obtain ⟨v', w6, hrun, hI6, hr6⟩ := H5.out.block (Bk j) (by show j ≤ _; omega) rfl
       have hob6 := hI6.oB
       simp only [] at hob6
       obtain ⟨ab', cb', hvb'⟩ := own_shape hob6
       subst hvb'
       have HRUN : Hid ((Builtin.append_ #[42, 42] 42 #[.slice ab j cb, .slice (some ⟨w5.heap.size, 0, none⟩) 1 1]).run Tryz.prog (w5.alloc (.cells #[.string (Bk j)] 9)) = .ok (.slice ab' (j + 1) cb') w6) := hrun
       have HI6 : Hid _ := hI6
       have q9 : w6.cell? ⟨h, 9, none⟩ = some (.slice ab j cb) := cell_of_row _ _ _ _ 174 _ hr6
       have p9 := frozen_of_row w6 h 9 _ 174 hr6
       clear hrun hI6 hr6 hob hob6
       go_wp2_with (at_builtin; refine wpList_app rfl (.tmp 119) (.tmp 121) 42 rfl _ _ _ (by simp [Act.eval]) (by simp [Act.eval]) _ HRUN.out ?_)
       go_roundw
       case rel =>
        refine ⟨j + 1, _, ⟨text, nx, nx + C, false⟩, by omega, ?_, rfl, rfl, ?_, HI6.out⟩
        ·rw [← hi]; go_num
        ·have h1 := HNX.out; show nx + C = from_ + 32 + (j + 1) * C; rw [Nat.succ_mul]; omega
       case measure => simp [intOf]; omega
     ·have hlt' : ¬ (i : Int) < (en : Int) := by omega
      have hje : j = en - first := by omega
      have HJE : Hid _ := hje
      clear hje
      go_wp2_with fail
      go_quiet (fail)
      obtain ⟨W1, hW⟩ : ∃ W, wr.drewN nq = W := ⟨_, rfl⟩
      have HI1 : Hid (HI w0 c h s' ⟨K, M, C, V, root, .slice aE es.length cE, es, num, .slice aL nl cL, nl, Lf, first, vb, j, Bk⟩ W1) := by
       show HI _ _ _ _ _ _
       rw [← hW]
       exact HIJ.out.drewN _
      rw [hW]
      clear hW a2 a3 a6 b0 b1
      have a2 : W1.cell? ⟨h, 2, none⟩ = some (.int .i64 C) := cell_of_row _ _ _ _ 174 _ HI1.out.row
      have b0 : W1.cell? ⟨c, 0, none⟩ = some (.string s'.text) := cell_of_row _ _ _ _ 239 _ HI1.out.cur.row
      have b1 : W1.cell? ⟨c, 1, none⟩ = some (.int .i64 (atC s' : Nat)) := cell_of_row _ _ _ _ 239 _ HI1.out.cur.row
      rw [ht'] at b0
      rw [atC_ok hw', hnx'] at b1
      by_cases hov : nx < text.size
      ·have hov' : (nx : Int) < (text.size : Int) := by omega
       go_wp2_with fail
       go_quiet (fail)
       obtain ⟨W2, hW⟩ : ∃ W, W1.drewN nq = W := ⟨_, rfl⟩
       have HI2 : Hid (HI w0 c h s' ⟨K, M, C, V, root, .slice aE es.length cE, es, num, .slice aL nl cL, nl, Lf, first, vb, j, Bk⟩ W2) := by
        show HI _ _ _ _ _ _
        rw [← hW]
        exact HI1.out.drewN _
       rw [hW]
       clear hW a2 b0 b1
       have b1 : W2.cell? ⟨c, 1, none⟩ = some (.int .i64 (atC s' : Nat)) := cell_of_row _ _ _ _ 239 _ HI2.out.cur.row
       rw [atC_ok hw', hnx'] at b1
       go_wp2_with fail
       refine Calls.mono (at_marks 7 nx w0 W2 HI2.out.bel) ?_
       rintro e w6 ⟨v, rfl, ho, hB⟩
       obtain ⟨va, vc, rfl⟩ := own_shape ho
       have HO : Hid _ := ho
       have HB : Hid _ := hB
       clear ho hB
       go_wp2_with fail
       go_ret
       have hnx2 := HNX.out
       have hje := HJE.out
       refine ⟨_, rfl, CRest.no (k := 7) (p := nx) ?_ HB.out HO.out⟩
       rw [HR.out, ← hje, if_pos (by omega), n5, hnx2]
      ·have hov' : ¬ (nx : Int) < (text.size : Int) := by omega
       go_wp2_with fail
       go_quiet (fail)
       obtain ⟨W2, hW⟩ : ∃ W, W1.drewN nq = W := ⟨_, rfl⟩
       have HI2 : Hid (HI w0 c h s' ⟨K, M, C, V, root, .slice aE es.length cE, es, num, .slice aL nl cL, nl, Lf, first, vb, j, Bk⟩ W2) := by
        show HI _ _ _ _ _ _
        rw [← hW]
        exact HI1.out.drewN _
       rw [hW]
       clear hW a2 b0 b1
       go_wp2_with fail
       go_ret
       have hnx2 := HNX.out
       have hje := HJE.out
       have hq : rest.size / C = j := by rw [show rest.size = j * C by omega, Nat.mul_div_cancel _ (by omega)]
       rw [hq]
       exact ⟨_, rfl, CRest.yes (by rw [HR.out, ← hje, if_neg (by omega)]) HI2.out⟩
   ·rw [if_neg hrr] at HR
    have hrq : (!(root.toList == rt.toList)) = true := by rw [texts_ne hrr]; rfl
    rw [hrq]
    clear hrq
    go_wp2_with fail
    refine Calls.mono (at_marks 9 4 w0 w9 H3.out.bel) ?_
    rintro e w10 ⟨v, rfl, ho, hB⟩
    obtain ⟨va, vc, rfl⟩ := own_shape ho
    have HO : Hid _ := ho
    have HB : Hid _ := hB
    clear ho hB
    go_wp2_with fail
    go_ret
    exact ⟨_, rfl, CRest.no HR.out HB.out HO.out⟩
  ·rw [if_neg hcd] at HR
   have hcq := texts_ne hcd
   go_wp2_with fail
   refine Calls.mono (at_marks 8 from_ w0 w2 H2.out.bel) ?_
   rintro e w3 ⟨v, rfl, ho, hB⟩
   obtain ⟨va, vc, rfl⟩ := own_shape ho
   have HO : Hid _ := ho
   have HB : Hid _ := hB
   clear ho hB
   go_wp2_with fail
   go_ret
   exact ⟨_, rfl, CRest.no HR.out HB.out HO.out⟩
def tA (t : ByteArray) : RS × ByteArray := ((RS.on t).word ⟨#[86, 79, 76, 49]⟩).bytes 32
def tL (t : ByteArray) : LT := (tA t).1.list
def tB (t : ByteArray) : RS × Nat := (tL t).st.num 0 (((tL t).V : Int) - 1)
def tC (t : ByteArray) : RS × ByteArray := (tB t).1.bytes ((tL t).cnt * 32)
theorem bytes_wrong {s : RS} (h : s.wrong = true) (n : Nat) : s.bytes n = (s, ⟨#[]⟩) := by unfold RS.bytes; rw [if_pos h]
theorem num_wrong {s : RS} (h : s.wrong = true) (lo : Nat) (hi : Int) : s.num lo hi = (s, 0) := by unfold RS.num; rw [if_pos h]
theorem num_field {s : RS} (h : s.wrong = false) (lo : Nat) (hi : Int) : (s.num lo hi).1.field = s.next := by
 unfold RS.num
 rw [h, if_neg (by simp)]
 split <;> rfl
theorem told_is (t : ByteArray) : (RS.on t).told = if (tB t).1.wrong then ⟨(tB t).1, (tA t).2, (tL t).st.text.extract (tA t).1.next (tL t).st.next, tL t, (tB t).2, ⟨#[]⟩⟩ else ⟨((if 512 < (tL t).cnt then (tB t).1.refuse else (tB t).1).bytes ((tL t).cnt * 32)).1, (tA t).2, (tL t).st.text.extract (tA t).1.next (tL t).st.next, tL t, (tB t).2, ((if 512 < (tL t).cnt then (tB t).1.refuse else (tB t).1).bytes ((tL t).cnt * 32)).2⟩ := rfl
theorem rdE_bad {kt : Nat → Int} {t : ByteArray} (hs : t.size ≤ 60000) (h : (RS.on t).told.st.wrong = true) : rdE kt t = some (7, (RS.on t).told.st.field) := by
 unfold rdE tCk
 rw [if_neg (by omega), bytes_wrong h, if_pos h]
theorem rdE_1 {kt : Nat → Int} {t : ByteArray} (hs : t.size ≤ 60000) (h : (tL t).st.wrong = true) : rdE kt t = some (7, (tL t).st.field) := by
 have e1 : (tB t).1 = (tL t).st := by unfold tB; rw [num_wrong h]
 have e2 : (RS.on t).told.st = (tL t).st := by rw [told_is, e1, if_pos h]
 rw [rdE_bad hs (by rw [e2]; exact h), e2]
theorem rdE_2 {kt : Nat → Int} {t : ByteArray} (hs : t.size ≤ 60000) (h : (tL t).st.wrong = false) (hc : 512 < (tL t).cnt) : rdE kt t = some (7, (tL t).st.next) := by
 have e1 : (tB t).1.field = (tL t).st.next := num_field h _ _
 cases hb : (tB t).1.wrong with
 | true =>
  have e2 : (RS.on t).told.st = (tB t).1 := by rw [told_is, if_pos hb]
  rw [rdE_bad hs (by rw [e2]; exact hb), e2, e1]
 | false =>
  have e2 : (RS.on t).told.st = (tB t).1.refuse := by
   rw [told_is, hb, if_neg (by simp), if_pos hc, bytes_wrong (s := (tB t).1.refuse) rfl]
  rw [rdE_bad hs (by rw [e2]; rfl), e2]
  show some (7, (tB t).1.field) = _
  rw [e1]
theorem rdE_3 {kt : Nat → Int} {t : ByteArray} (hs : t.size ≤ 60000) (hc : (tL t).cnt ≤ 512) (h : (tC t).1.wrong = true) : rdE kt t = some (7, (tC t).1.field) := by
 cases hb : (tB t).1.wrong with
 | true =>
  have e2 : (RS.on t).told.st = (tB t).1 := by rw [told_is, if_pos hb]
  have e3 : (tC t).1 = (tB t).1 := by unfold tC; rw [bytes_wrong hb]
  rw [rdE_bad hs (by rw [e2]; exact hb), e2, e3]
 | false =>
  have e2 : (RS.on t).told.st = (tC t).1 := by
   rw [told_is, hb, if_neg (by simp), if_neg (by omega)]; rfl
  rw [rdE_bad hs (by rw [e2]; exact h), e2]
theorem rd_4 {t : ByteArray} (hc : (tL t).cnt ≤ 512) (h : (tC t).1.wrong = false) : (tB t).1.wrong = false ∧ (RS.on t).told.st = (tC t).1 ∧ (RS.on t).told.root = (tA t).2 ∧ (RS.on t).told.L = tL t ∧ (RS.on t).told.num = (tB t).2 ∧ (RS.on t).told.lv = (tC t).2 := by
 have hb : (tB t).1.wrong = false := bytes_ok h
 refine ⟨hb, ?_⟩
 rw [told_is, hb, if_neg (by simp), if_neg (by omega)]
 exact ⟨rfl, rfl, rfl, rfl, rfl⟩
def rhT (t : ByteArray) (vE vL vB : Value) : HD := ⟨(RS.on t).told.L.K, (RS.on t).told.L.M, (RS.on t).told.L.C, (RS.on t).told.L.V, (RS.on t).told.root, vE, (RS.on t).told.L.es, (RS.on t).told.num, vL, (RS.on t).told.L.cnt, pc (RS.on t).told.lv 32, (RS.on t).told.first, vB, (tRest t).size / (RS.on t).told.L.C, pc (tRest t) (RS.on t).told.L.C⟩
structure RRd (w : World) (t : ByteArray) (R : Option (Nat × Nat)) (p v : Value) (w' : World) : Prop where
 bel : Below w.heap.size w w'
 bad : ∀ k q, R = some (k, q) → w'.ownsRow w.heap.size 250 2 v 1 (mkL [((k : Int), (q : Int))])
 good : R = none → v = .slice none 0 0 ∧ ∃ c h vE vL vB st, p = .pointer (some ⟨h, 0, none⟩) ∧ HI w c h st (rhT t vE vL vB) w'
theorem RRd.no {w : World} {t : ByteArray} {R : Option (Nat × Nat)} {k q : Nat} {p v : Value} {w' : World} (e : R = some (k, q)) (hb : Below w.heap.size w w') (ho : w'.ownsRow w.heap.size 250 2 v 1 (mkL [((k : Int), (q : Int))])) : RRd w t R p v w' :=
 ⟨hb, fun k' p' e' => by rw [e] at e'; cases e'; exact ho, fun e' => by rw [e] at e'; cases e'⟩
end Go.Proofs.YtadinjaocnlglaaGreatDoor
