/-
  Plain: a volume that is written is read rightly.
  Plain: a vault as data; its volumes, whole or harmed behind their heads, are taken.
  Plain: a stripe of which enough blocks are good comes back; the stream.
  Plain: the vault that comes of sorted objects.
  Plain: all volumes of a vault, in whatever order.
  Plain: volumes that lose parts, as data.
  The walk of vaultkeep's Ordered.
  The walk of vaultkeep.Packed.
  The walks of vaultkeep's amount, volumeOf, block, clash; a Plan.
  The walk of vaultkeep's planned.
  A Wreck in memory; the walks of vaultkeep's sound and wrecked.
  The walk of vaultkeep's wrecked.
  The walks of vaultkeep's sameInts, hit and there.
  A Stock's objects parted from the names of those that are lost.
  Plain: what is told of volumes that were overwritten, cut off or left out.
  Plain: who knows the root knows the list, the leaves and every good block, or two texts have one digest.
  The document's Joints.
  The document's Texts.
  The walk of vaultkeep's collides.
  Plain: what Guarded looks at.
  The document's Head as it lies in a list; sameHeads.
-/
import Derived.Test.YtadinjaocnlglaaGreatDoorZ31
import Derived.Test.YtadinjaocnlglaaGreatDoorZ14
import Derived.Sort.Walk0
import Derived.Test.YtadinjaocnlglaaGreatDoorZ05
import Derived.BigRegion
import Derived.BigQuiet
import Derived.Test.YtadinjaocnlglaaGreatDoorZ35
import Derived.Test.YtadinjaocnlglaaGreatDoorZ20
namespace Go.Proofs.YtadinjaocnlglaaGreatDoor
open Go.RowKit
set_option maxRecDepth 100000
set_option maxHeartbeats 1000000
theorem whl_get (S : Nat → ByteArray) (k m c i : Nat) (hi : i < k + m) : (whl S k m c)[i]? = some (.string (allS S k c i)) := by
 unfold whl allS
 by_cases h : i < k
 ·rw [List.getElem?_append_left (by rw [tV_len]; exact h), if_pos h]
  simp [tV, h]
 ·rw [List.getElem?_append_right (by rw [tV_len]; omega), if_neg h, tV_len]
  simp [tV, show i - k < m by omega]
theorem blkV_length (t : ByteArray) (z K M C : Nat) : ∀ n, (blkV t z K M C n).length = n * (K + M)
 | 0 => by simp [blkV]
 | n + 1 => by rw [blkV, List.length_append, blkV_length t z K M C n, whl_len, Nat.succ_mul]
theorem blkV_get (t : ByteArray) (z K M C : Nat) : ∀ n st i, st < n → i < K + M → (blkV t z K M C n)[st * (K + M) + i]? = some (.string (allS (dat t z C st) K C i))
 | 0, st, i, h, _ => by omega
 | n + 1, st, i, h, hi => by
  rw [blkV]
  by_cases e : st = n
  ·subst e
   rw [List.getElem?_append_right (by rw [blkV_length]; omega), blkV_length, Nat.add_sub_cancel_left]
   exact whl_get _ _ _ _ _ hi
  ·have h1 : (st + 1) * (K + M) ≤ n * (K + M) := Nat.mul_le_mul_right _ (by omega)
   rw [Nat.succ_mul] at h1
   rw [List.getElem?_append_left (by rw [blkV_length]; omega)]
   exact blkV_get t z K M C n st i (by omega) hi
theorem jL_split (F : Nat → ByteArray) : ∀ n i, i < n → ∃ r, jL F n = jL F i ++ (F i).data.toList ++ r
 | 0, i, h => by omega
 | n + 1, i, h => by
  have e : jL F (n + 1) = jL F n ++ (F n).data.toList := by simp [jL, List.range_succ]
  by_cases ei : i = n
  ·subst ei; exact ⟨[], by rw [e, List.append_nil]⟩
  ·obtain ⟨r, hr⟩ := jL_split F n i (by omega)
   exact ⟨r ++ (F n).data.toList, by rw [e, hr]; simp only [List.append_assoc]⟩
theorem ext_get (t : ByteArray) (a b i : Nat) (hi : i < b - a) : (t.extract a b).data.toList.getD i 0 = t.data.toList.getD (a + i) 0 := by
 rw [ext_list, List.getD_eq_getElem?_getD, List.getD_eq_getElem?_getD, List.getElem?_take, if_pos hi, List.getElem?_drop]
theorem get_list {t : ByteArray} {j : Nat} (h : j < t.size) : t[j] = t.data.toList.getD j 0 := by
 rw [List.getD_eq_getElem?_getD, List.getElem?_eq_getElem (by rw [dl]; exact h)]
 rfl
set_option maxHeartbeats 4000000
theorem unV_cells {w : World} {B : Nat} {a : Option Addr} {n c : Nat} {l : List Nat} (h : w.ownsRow B 3 1 (.slice a n c) n (unV l)) (hn : 0 < n) : ∃ g, a = some ⟨g, 0, none⟩ ∧ B ≤ g ∧ ∀ i (hi : i < l.length), w.cell? ⟨g, i, none⟩ = some (.int .i64 (l[i] : Nat)) := by
 rcases h.2 with ⟨_, h2⟩ | ⟨g, cap, cur, hv, hB, hh, _⟩
 ·omega
 ·cases hv
  refine ⟨g, rfl, hB, fun i hi => ?_⟩
  have := h.cells (g := g) rfl i _ (show (unV l)[i]? = some (.int .i64 (l[i] : Nat)) by simp [unV, hi])
  rw [Addr.add_lit, Nat.zero_add] at this
  exact this
def IR (w : World) (a : Option Addr) (l : List Nat) : Prop := ∀ i, i < l.length → ∃ g, a = some ⟨g, 0, none⟩ ∧ w.cell? ⟨g, i, none⟩ = some (.int .i64 (l.getD i 0 : Nat))
theorem own_ir {w : World} {B : Nat} {a : Option Addr} {n c : Nat} {l : List Nat} (h : w.ownsRow B 3 1 (.slice a n c) n (unV l)) (hn : n = l.length) : IR w a l := fun i hi => by
 obtain ⟨g, e, _, hc⟩ := unV_cells h (by omega)
 refine ⟨g, e, ?_⟩
 rw [hc i hi, List.getD_eq_getElem?_getD, List.getElem?_eq_getElem hi]
 rfl
theorem told_lstT {kt : Nat → Int} {t : ByteArray} (h : rdE kt t = none) : (tT t).lst = lstT (tT t).L.K (tT t).L.M (tT t).L.C (tT t).L.V (tT t).L.es.length (nmE (tT t).L.es) (lnE (tT t).L.es) := by
 have h1 := (told_dec (bytes_ok (rd_none h).2.1)).2.1
 apply ba_ext
 rw [lstT_list]
 exact h1
structure HVd (kt : Nat → Int) (t : ByteArray) (K M C V : Nat) (root : ByteArray) (es : List (ByteArray × Nat)) (num cnt : Nat) (Lf : Nat → ByteArray) (first nb : Nat) (Bk : Nat → ByteArray) : Prop where
 rd : rdE kt t = none
 rh : ∀ vE vL vB, rhT t vE vL vB = ⟨K, M, C, V, root, vE, es, num, vL, cnt, Lf, first, vB, nb, Bk⟩
 lst : (tT t).lst = lstT K M C V es.length (nmE es) (lnE es)
 eroot : (tT t).root = root
 enum : (tT t).num = num
 ecnt : (tT t).L.cnt = cnt
 lf : Lf = pc (tT t).lv 32
 lvz : (tT t).lv.size = cnt * 32
 km : K + M ≤ 255
 c64 : C ≤ 64
 v16 : V ≤ 16
 e16 : es.length ≤ 16
 nm : ∀ j, (nmE es j).size ≤ 1000
 ln : ∀ j, lnE es j ≤ 100000
 c512 : cnt ≤ 512
 n512 : nb ≤ 512
theorem hv_of {kt : Nat → Int} {t : ByteArray} (h : rdE kt t = none) : ∃ K M C V root es num cnt Lf first nb Bk, HVd kt t K M C V root es num cnt Lf first nb Bk := by
 have hT : Told1 (tT t) := ck_ok (rd_none h).2.1
 have h2 : (tT t).first + nB t ≤ (tT t).L.cnt := (vol_fit h).2
 have h3 := hT.cnt
 have h4 : nB t ≤ 512 := by omega
 have hle := told_len (RS.on t)
 exact ⟨_, _, _, _, _, _, _, _, _, _, _, _, ⟨h, fun vE vL vB => rfl, told_lstT h, rfl, rfl, rfl, rfl, hT.lv, hT.km, hT.c64, hT.v16, hle.1, nmE_le (told_nm (RS.on t)), lnE_le hle.2, h3, h4⟩⟩
def RHd (kt : Nat → Int) (B : Nat) (t : ByteArray) (h : Nat) (w : World) : Prop := rdE kt t = none ∧ B ≤ h ∧ ∃ vE vL vB, w.heap[h]? = some (.cells (rhT t vE vL vB).cells 174 (0, 0)) ∧ w.ownsRow B 70 2 vE (rhT t vE vL vB).es.length (enV (rhT t vE vL vB).es) ∧ w.ownsRow B 9 1 vL (rhT t vE vL vB).nl (tV (rhT t vE vL vB).Lf (rhT t vE vL vB).nl) ∧ w.ownsRow B 9 1 vB (rhT t vE vL vB).nb (tV (rhT t vE vL vB).Bk (rhT t vE vL vB).nb)
theorem RHd.below {kt : Nat → Int} {B : Nat} {t : ByteArray} {h : Nat} {w w' : World} (H : RHd kt B t h w) (hb : Below w.heap.size w w') : RHd kt B t h w' := by
 obtain ⟨h0, h1, vE, vL, vB, hr, oE, oL, oB⟩ := H
 exact ⟨h0, h1, vE, vL, vB, by rw [hb.block h (Array.getElem?_eq_some_iff.1 hr).1]; exact hr, own_kept oE (fun q hq => hb.block q (own_lt oE q hq)), own_kept oL (fun q hq => hb.block q (own_lt oL q hq)), own_kept oB (fun q hq => hb.block q (own_lt oB q hq))⟩
theorem RHd.lt {kt : Nat → Int} {B : Nat} {t : ByteArray} {h : Nat} {w : World} (H : RHd kt B t h w) : h < w.heap.size := by
 obtain ⟨h0, h1, vE, vL, vB, hr, _⟩ := H
 exact (Array.getElem?_eq_some_iff.1 hr).1
theorem RHd.parts {kt : Nat → Int} {B : Nat} {t : ByteArray} {h : Nat} {w : World} {K M C V : Nat} {root : ByteArray} {es : List (ByteArray × Nat)} {num cnt : Nat} {Lf : Nat → ByteArray} {first nb : Nat} {Bk : Nat → ByteArray} (H : RHd kt B t h w) (D : HVd kt t K M C V root es num cnt Lf first nb Bk) :
  ∃ aE cE aL cL aB cB, w.heap[h]? = some (.cells (HD.cells ⟨K, M, C, V, root, .slice aE es.length cE, es, num, .slice aL cnt cL, cnt, Lf, first, .slice aB nb cB, nb, Bk⟩) 174 (0, 0)) ∧ w.ownsRow B 70 2 (.slice aE es.length cE) es.length (enV es) ∧ w.ownsRow B 9 1 (.slice aL cnt cL) cnt (tV Lf cnt) ∧ w.ownsRow B 9 1 (.slice aB nb cB) nb (tV Bk nb) := by
 obtain ⟨h0, h1, vE, vL, vB, hr, oE, oL, oB⟩ := H
 rw [D.rh] at hr oE oL oB
 simp only [] at oE oL oB
 obtain ⟨aE, cE, rfl⟩ := own_shape oE
 obtain ⟨aL, cL, rfl⟩ := own_shape oL
 obtain ⟨aB, cB, rfl⟩ := own_shape oB
 exact ⟨aE, cE, aL, cL, aB, cB, hr, oE, oL, oB⟩
theorem tV_cell {w : World} {B n c : Nat} {a : Option Addr} {L : Nat → ByteArray} (h : w.ownsRow B 9 1 (.slice a n c) n (tV L n)) {i : Nat} (hi : i < n) : ∃ g, a = some ⟨g, 0, none⟩ ∧ g < w.heap.size ∧ w.cell? ⟨g, i, none⟩ = some (.string (L i)) := by
 obtain ⟨g, cap, e, _, hg, hC⟩ := own_row9 h (by omega)
 cases e
 exact ⟨g, rfl, hg, hC i hi⟩
def SaD (ta tb : ByteArray) (w : World) (e : Ending) (w' : World) : Prop := ∃ b : Bool, e = .returned (.bool b) ∧ (b = true ↔ Same3 ta tb) ∧ Below w.heap.size w w'
theorem SaD.no {ta tb : ByteArray} {w w' : World} (h : ¬ Same3 ta tb) (hb : Below w.heap.size w w') : SaD ta tb w (.returned (.bool false)) w' := ⟨false, rfl, ⟨fun e => (by cases e), fun e => absurd e h⟩, hb⟩
theorem SaD.yes {ta tb : ByteArray} {w w' : World} (h : Same3 ta tb) (hb : Below w.heap.size w w') : SaD ta tb w (.returned (.bool true)) w' := ⟨true, rfl, ⟨fun _ => h, fun _ => rfl⟩, hb⟩
theorem rsame (kt : Nat → Int) (B : Nat) (ta tb : ByteArray) (ha hb : Nat) (w : World) (HA : RHd kt B ta ha w) (HB : RHd kt B tb hb w) :
  Calls Tryz.prog 160 #[.pointer (some ⟨ha, 0, none⟩), .pointer (some ⟨hb, 0, none⟩)] w fun e w' => SaD ta tb w e w' := by
 obtain ⟨K, M, C, V, root, es, num, cnt, Lf, first, nb, Bk, DA⟩ := hv_of HA.1
 obtain ⟨K', M', C', V', root', es', num', cnt', Lf', first', nb', Bk', DB⟩ := hv_of HB.1
 obtain ⟨aE, cE, aL, cL, aB, cB, hr, oE, oL, oB⟩ := HA.parts DA
 obtain ⟨aE', cE', aL', cL', aB', cB', hr', oE', oL', oB'⟩ := HB.parts DB
 have hal := HA.lt
 have hbl := HB.lt
 have H1 : Hid _ := DA
 have H2 : Hid _ := DB
 have HRA : Hid _ := hr
 have HRB : Hid _ := hr'
 have HLA : Hid _ := oL
 have HLB : Hid _ := oL'
 have HCN : Hid ((tT ta).lst = (tT tb).lst → cnt = cnt') := fun e => by
  have h1 := (same_list (bytes_ok (rd_none HA.1).2.1) (bytes_ok (rd_none HB.1).2.1) e).cnt
  have h2 : (tT tb).L.cnt = (tT ta).L.cnt := h1
  rw [DA.ecnt, DB.ecnt] at h2
  exact h2.symm
 obtain ⟨l1, hl1⟩ : ∃ x, lstT K M C V es.length (nmE es) (lnE es) = x := ⟨_, rfl⟩
 obtain ⟨l2, hl2⟩ : ∃ x, lstT K' M' C' V' es'.length (nmE es') (lnE es') = x := ⟨_, rfl⟩
 have HL1 : Hid ((tT ta).lst = l1) := DA.lst.trans hl1
 have HL2 : Hid ((tT tb).lst = l2) := DB.lst.trans hl2
 have HC1 : Hid (∀ X : World, Below w.heap.size w X → Calls Tryz.prog 85 #[.agg #[.int .i64 K, .int .i64 M, .int .i64 C, .int .i64 V], .slice aE es.length cE] X fun e w' => e = .returned (.string l1) ∧ Below X.heap.size X w') := fun X hX => by
  have := DA.km; have := DA.c64; have := DA.v16; have := DA.e16
  rw [← hl1]
  exact rlist_any K M C V es.length cE aE (nmE es) (lnE es) X (by omega) (by omega) (by omega) (by omega) (by omega) DA.nm DA.ln (ent_cellsE rfl (own_kept oE (fun q hq => hX.block q (own_lt oE q hq))))
 have HC2 : Hid (∀ X : World, Below w.heap.size w X → Calls Tryz.prog 85 #[.agg #[.int .i64 K', .int .i64 M', .int .i64 C', .int .i64 V'], .slice aE' es'.length cE'] X fun e w' => e = .returned (.string l2) ∧ Below X.heap.size X w') := fun X hX => by
  have := DB.km; have := DB.c64; have := DB.v16; have := DB.e16
  rw [← hl2]
  exact rlist_any K' M' C' V' es'.length cE' aE' (nmE es') (lnE es') X (by omega) (by omega) (by omega) (by omega) (by omega) DB.nm DB.ln (ent_cellsE rfl (own_kept oE' (fun q hq => hX.block q (own_lt oE' q hq))))
 clear HA HB DA DB hl1 hl2 oE oL oB oE' oL' oB' hr hr'
 have HV : Hid (∀ w2 : World, Below w.heap.size w w2 → w2.cell? ⟨ha, 0, none⟩ = some (.int .i64 K) ∧ w2.cell? ⟨ha, 1, none⟩ = some (.int .i64 M) ∧ w2.cell? ⟨ha, 2, none⟩ = some (.int .i64 C) ∧ w2.cell? ⟨ha, 3, none⟩ = some (.int .i64 V) ∧ w2.cell? ⟨ha, 4, none⟩ = some (.string root) ∧ w2.cell? ⟨ha, 5, none⟩ = some (.slice aE es.length cE) ∧ w2.cell? ⟨ha, 7, none⟩ = some (.slice aL cnt cL) ∧ w2.cell? ⟨hb, 0, none⟩ = some (.int .i64 K') ∧ w2.cell? ⟨hb, 1, none⟩ = some (.int .i64 M') ∧ w2.cell? ⟨hb, 2, none⟩ = some (.int .i64 C') ∧ w2.cell? ⟨hb, 3, none⟩ = some (.int .i64 V') ∧ w2.cell? ⟨hb, 4, none⟩ = some (.string root') ∧ w2.cell? ⟨hb, 5, none⟩ = some (.slice aE' es'.length cE') ∧ w2.cell? ⟨hb, 7, none⟩ = some (.slice aL' cnt' cL')) := fun X hX => by
  have h1 := (hX.block ha hal).trans HRA.out
  have h2 := (hX.block hb hbl).trans HRB.out
  exact ⟨cell_of_row _ _ _ _ 174 _ h1, cell_of_row _ _ _ _ 174 _ h1, cell_of_row _ _ _ _ 174 _ h1, cell_of_row _ _ _ _ 174 _ h1, cell_of_row _ _ _ _ 174 _ h1, cell_of_row _ _ _ _ 174 _ h1, cell_of_row _ _ _ _ 174 _ h1, cell_of_row _ _ _ _ 174 _ h2, cell_of_row _ _ _ _ 174 _ h2, cell_of_row _ _ _ _ 174 _ h2, cell_of_row _ _ _ _ 174 _ h2, cell_of_row _ _ _ _ 174 _ h2, cell_of_row _ _ _ _ 174 _ h2, cell_of_row _ _ _ _ 174 _ h2⟩
 have HSM : Hid (Same3 ta tb ↔ root = root' ∧ l1 = l2 ∧ (tT ta).lv = (tT tb).lv) := by
  show _ ↔ _
  unfold Same3
  rw [H1.out.eroot, H2.out.eroot, HL1.out, HL2.out]
 obtain ⟨v0, v1, v2, v3, v4, v5, v6, v7, v8, v9, v10, v11, v12, v13⟩ := HV.out w (Below.refl _ _)
 by_cases hrt : root = root'
 ·have q1 : (root.toList == root'.toList) = true := texts_eq hrt
  have HRT : Hid _ := hrt
  clear hrt
  by_cases hls : l1 = l2
  ·have q2 : (l1.toList == l2.toList) = true := texts_eq hls
   have hce := HCN.out (by rw [HL1.out, HL2.out, hls])
   have hce' : ((cnt : Int) == (cnt' : Int)) = true := by simp; omega
   have HLS : Hid _ := hls
   clear hls
   go_enter Tryz.func160, Tryz.ntmps160
   go_wp2_with fail
   go_region_held3 (fun w2 => w2.cell? ⟨ha, 0, none⟩ = some (.int .i64 K) ∧ w2.cell? ⟨ha, 1, none⟩ = some (.int .i64 M) ∧ w2.cell? ⟨ha, 2, none⟩ = some (.int .i64 C) ∧ w2.cell? ⟨ha, 3, none⟩ = some (.int .i64 V) ∧ w2.cell? ⟨ha, 4, none⟩ = some (.string root) ∧ w2.cell? ⟨ha, 5, none⟩ = some (.slice aE es.length cE) ∧ w2.cell? ⟨ha, 7, none⟩ = some (.slice aL cnt cL) ∧ w2.cell? ⟨hb, 0, none⟩ = some (.int .i64 K') ∧ w2.cell? ⟨hb, 1, none⟩ = some (.int .i64 M') ∧ w2.cell? ⟨hb, 2, none⟩ = some (.int .i64 C') ∧ w2.cell? ⟨hb, 3, none⟩ = some (.int .i64 V') ∧ w2.cell? ⟨hb, 4, none⟩ = some (.string root') ∧ w2.cell? ⟨hb, 5, none⟩ = some (.slice aE' es'.length cE') ∧ w2.cell? ⟨hb, 7, none⟩ = some (.slice aL' cnt' cL')) (first | exact ⟨y0, y1, y2, y3, y4, y5, y6, y7, y8, y9, y10, y11, y12, y13⟩ | exact ⟨x0, x1, x2, x3, x4, x5, x6, x7, x8, x9, x10, x11, x12, x13⟩ | exact ⟨v0, v1, v2, v3, v4, v5, v6, v7, v8, v9, v10, v11, v12, v13⟩ | go_keep) (first | (go_at_call 85; have hB7c := hB7; clear hB7c; refine Calls.mono (HC2.out _ hB7) ?_; rintro e w8 ⟨rfl, hb8⟩; have hB8 : Below w.heap.size w w8 := (hB7.trans (hb8.mono hB7.size)); obtain ⟨y0, y1, y2, y3, y4, y5, y6, y7, y8, y9, y10, y11, y12, y13⟩ := HV.out w8 hB8) | (go_at_call 85; refine Calls.mono (HC1.out _ (by first | exact Below.refl _ _ | exact (Below.refl _ _).drew)) ?_; rintro e w7 ⟨rfl, hb7⟩; have hB7 : Below w.heap.size w w7 := (by first | exact hb7 | exact ((Below.refl _ _).drew).trans hb7); obtain ⟨x0, x1, x2, x3, x4, x5, x6, x7, x8, x9, x10, x11, x12, x13⟩ := HV.out w7 hB7))
   have HB8 : Hid (Below w.heap.size w w8) := hB8
   clear hb7 hB7 hb8 hB8 v0 v1 v2 v3 v4 v5 v6 v7 v8 v9 v10 v11 v12 v13 x0 x1 x2 x3 x4 x5 x6 x7 x8 x9 x10 x11 x12 x13 y0 y1 y2 y3 y4 y5 y6 y7 y8 y9 y10 y11 y12 y13 q1 q2 HC1 HC2
   subst hce
   have HLV : Hid ((∀ j, j < cnt → Lf j = Lf' j) ↔ (tT ta).lv = (tT tb).lv) := by
    have z1 := H1.out.lvz
    have z2 := H2.out.lvz
    rw [H1.out.lf, H2.out.lf]
    constructor
    ·intro h
     rw [← jT_pc _ 32 cnt z1, ← jT_pc _ 32 cnt z2]
     exact jT_congr h
    ·intro h j _
     rw [h]
   go_wp2_with fail
   go_loopw [5] (fun iv wr => ∃ i : Nat, i ≤ cnt ∧ iv = .int .i64 i ∧ (∀ j, j < i → Lf j = Lf' j) ∧ Below w.heap.size w wr) (fun iv _ => cnt - (intOf iv).toNat)
   case atStart => exact ⟨0, Nat.zero_le _, rfl, fun j hj => by omega, HB8.out⟩
   case round =>
    obtain ⟨i, hi, rfl, hE, hBw⟩ := hrel
    have HE : Hid _ := hE
    have HBW : Hid _ := hBw
    clear hE hBw
    obtain ⟨_, _, _, _, _, _, a7, _, _, _, _, _, _, b7⟩ := HV.out wr HBW.out
    by_cases hlt : i < cnt
    ·have hlt' : (i : Int) < (cnt : Int) := by omega
     have h512 := H1.out.c512
     obtain ⟨g1, rfl, hg1, c1⟩ := tV_cell HLA.out hlt
     obtain ⟨g2, rfl, hg2, c2⟩ := tV_cell HLB.out hlt
     have d1 := (HBW.out.cell (p := ⟨g1, i, none⟩) hg1).trans c1
     have d2 := (HBW.out.cell (p := ⟨g2, i, none⟩) hg2).trans c2
     clear c1 c2
     by_cases hxy : Lf i = Lf' i
     ·have q1 : ((Lf i).toList == (Lf' i).toList) = true := texts_eq hxy
      have HXY : Hid _ := hxy
      clear hxy
      go_wp2_with fail
      go_region
      go_wp2_with fail
      go_roundw
      case rel =>
       refine ⟨i + 1, by omega, by go_num, fun j hj => ?_, by first | exact HBW.out.drew | exact HBW.out⟩
       by_cases e : j = i
       ·rw [e]; exact HXY.out
       ·exact HE.out j (by omega)
      case measure => simp [intOf]; omega
     ·have q1 : ((Lf i).toList == (Lf' i).toList) = false := texts_ne hxy
      have HNS : Hid (¬ Same3 ta tb) := fun h => hxy (HLV.out.2 (HSM.out.1 h).2.2 i hlt)
      clear hxy
      go_wp2_with fail
      go_region
      go_wp2_with fail
      go_ret
      exact SaD.no HNS.out (by first | exact HBW.out.drew | exact HBW.out)
    ·have hlt' : ¬ (i : Int) < (cnt : Int) := by omega
     obtain rfl : i = cnt := by omega
     have HYS : Hid (Same3 ta tb) := HSM.out.2 ⟨HRT.out, HLS.out, HLV.out.1 HE.out⟩
     go_wp2_with fail
     go_ret
     exact SaD.yes HYS.out HBW.out
  ·have q2 : (l1.toList == l2.toList) = false := texts_ne hls
   have HNS : Hid (¬ Same3 ta tb) := fun h => hls (HSM.out.1 h).2.1
   clear hls
   go_enter Tryz.func160, Tryz.ntmps160
   go_wp2_with fail
   refine wp_region_held_drew (S := fun w2 => w2.cell? ⟨ha, 0, none⟩ = some (.int .i64 K) ∧ w2.cell? ⟨ha, 1, none⟩ = some (.int .i64 M) ∧ w2.cell? ⟨ha, 2, none⟩ = some (.int .i64 C) ∧ w2.cell? ⟨ha, 3, none⟩ = some (.int .i64 V) ∧ w2.cell? ⟨ha, 4, none⟩ = some (.string root) ∧ w2.cell? ⟨ha, 5, none⟩ = some (.slice aE es.length cE) ∧ w2.cell? ⟨ha, 7, none⟩ = some (.slice aL cnt cL) ∧ w2.cell? ⟨hb, 0, none⟩ = some (.int .i64 K') ∧ w2.cell? ⟨hb, 1, none⟩ = some (.int .i64 M') ∧ w2.cell? ⟨hb, 2, none⟩ = some (.int .i64 C') ∧ w2.cell? ⟨hb, 3, none⟩ = some (.int .i64 V') ∧ w2.cell? ⟨hb, 4, none⟩ = some (.string root') ∧ w2.cell? ⟨hb, 5, none⟩ = some (.slice aE' es'.length cE') ∧ w2.cell? ⟨hb, 7, none⟩ = some (.slice aL' cnt' cL')) (by kernel_rfl) (by exact ⟨v0, v1, v2, v3, v4, v5, v6, v7, v8, v9, v10, v11, v12, v13⟩) (fun hHeld => ?_)
   refine wpAnyH_take (i := 0) (oi := Oper.mk (some 6) _ _ _ _ _) (v := ?v0) rfl (by kernel_rfl) (by kernel_rfl) (by kernel_rfl) (fun _ _ _ h => h) (Or.inl ⟨by rfl, ?hy0⟩) (by assumption) ?rest0
   case hy0 => (intro X hX; (try dsimp only at hX); go_simp; try with_reducible rfl)
   try go_frame
   refine wpAnyH_take (i := 1) (oi := Oper.mk (some 7) _ _ _ _ _) (v := ?v1) rfl (by kernel_rfl) (by kernel_rfl) (by kernel_rfl) (fun _ _ _ h => h) (Or.inl ⟨by rfl, ?hy1⟩) (by assumption) ?rest1
   case hy1 => (intro X hX; (try dsimp only at hX); go_simp; try with_reducible rfl)
   try go_frame
   refine wpAnyH_take (i := 2) (oi := Oper.mk (some 8) _ _ _ _ _) (v := ?v2) rfl (by kernel_rfl) (by kernel_rfl) (by kernel_rfl) (fun _ _ _ h => h) (Or.inl ⟨by rfl, ?hy2⟩) (by assumption) ?rest2
   case hy2 => (intro X hX; (try dsimp only at hX); go_simp; try with_reducible rfl)
   try go_frame
   refine wpAnyH_take (i := 3) (oi := Oper.mk (some 9) _ _ _ _ _) (v := ?v3) rfl (by kernel_rfl) (by kernel_rfl) (by kernel_rfl) (fun _ _ _ h => h) (Or.inl ⟨by rfl, ?hy3⟩) (by assumption) ?rest3
   case hy3 => (intro X hX; (try dsimp only at hX); go_simp; try with_reducible rfl)
   try go_frame
   refine wpAnyH_take (i := 4) (oi := Oper.mk (some 10) _ _ _ _ _) (v := ?v4) rfl (by kernel_rfl) (by kernel_rfl) (by kernel_rfl) (fun _ _ _ h => h) (Or.inl ⟨by rfl, ?hy4⟩) (by assumption) ?rest4
   case hy4 => (intro X hX; (try dsimp only at hX); go_simp; try with_reducible rfl)
   try go_frame
   refine wpAnyH_take (i := 5) (oi := Oper.mk (some 11) _ _ _ _ _) (v := ?v5) rfl (by kernel_rfl) (by kernel_rfl) (by kernel_rfl) (fun _ _ _ h => h) (Or.inl ⟨by rfl, ?hy5⟩) (by assumption) ?rest5
   case hy5 => (intro X hX; (try dsimp only at hX); go_simp; try with_reducible rfl)
   try go_frame
   refine wpAnyH_take (i := 6) (oi := Oper.mk (some 12) _ _ _ _ _) (v := ?v6) rfl (by kernel_rfl) (by kernel_rfl) (by kernel_rfl) (fun _ _ _ h => h) (Or.inl ⟨by rfl, ?hy6⟩) (by assumption) ?rest6
   case hy6 => (intro X hX; (try dsimp only at hX); go_simp; try with_reducible rfl)
   try go_frame
   refine wpAnyH_take (i := 7) (oi := Oper.mk (some 13) _ _ _ _ _) (v := ?v7) rfl (by kernel_rfl) (by kernel_rfl) (by kernel_rfl) (fun _ _ _ h => h) (Or.inl ⟨by rfl, ?hy7⟩) (by assumption) ?rest7
   case hy7 => (intro X hX; (try dsimp only at hX); go_simp; try with_reducible rfl)
   try go_frame
   refine wpAnyH_take (i := 8) (oi := Oper.mk (some 14) _ _ _ _ _) (v := ?v8) rfl (by kernel_rfl) (by kernel_rfl) (by kernel_rfl) (fun _ _ _ h => h) (Or.inl ⟨by rfl, ?hy8⟩) (by assumption) ?rest8
   case hy8 => (intro X hX; (try dsimp only at hX); go_simp; try with_reducible rfl)
   try go_frame
   refine wpAnyH_take (i := 9) (oi := Oper.mk (some 15) _ _ _ _ _) (v := ?v9) rfl (by kernel_rfl) (by kernel_rfl) (by kernel_rfl) (fun _ _ _ h => h) (Or.inl ⟨by rfl, ?hy9⟩) (by assumption) ?rest9
   case hy9 => (intro X hX; (try dsimp only at hX); go_simp; try with_reducible rfl)
   try go_frame
   refine wpAnyH_take (i := 10) (oi := Oper.mk (some 16) _ _ _ _ _) (v := ?v10) rfl (by kernel_rfl) (by kernel_rfl) (by kernel_rfl) (fun _ _ _ h => h) (Or.inl ⟨by rfl, ?hy10⟩) (by assumption) ?rest10
   case hy10 => (intro X hX; (try dsimp only at hX); go_simp; try with_reducible rfl)
   try go_frame
   refine wpAnyH_take (i := 11) (oi := Oper.mk (some 17) _ _ _ _ _) (v := ?v11) rfl (by kernel_rfl) (by kernel_rfl) (by kernel_rfl) (fun _ _ _ h => h) (Or.inl ⟨by rfl, ?hy11⟩) (by assumption) ?rest11
   case hy11 => (intro X hX; (try dsimp only at hX); go_simp; try with_reducible rfl)
   try go_frame
   refine wpAnyH_take (i := 12) (oi := Oper.mk (some 18) _ _ _ _ _) (v := ?v12) rfl (by kernel_rfl) (by kernel_rfl) (by kernel_rfl) (fun _ _ _ h => h) (Or.inl ⟨by rfl, ?hy12⟩) (by assumption) ?rest12
   case hy12 => (intro X hX; (try dsimp only at hX); go_simp; try with_reducible rfl)
   try go_frame
   refine wpAnyH_take (i := 13) (oi := Oper.mk (some 19) _ _ _ _ _) (v := ?v13) rfl (by kernel_rfl) (by kernel_rfl) (by kernel_rfl) (fun _ _ _ h => h) (Or.inl ⟨by rfl, ?hy13⟩) (by assumption) ?rest13
   case hy13 => (intro X hX; (try dsimp only at hX); go_simp; try with_reducible rfl)
   try go_frame
   refine wpAnyH_take (i := 14) (oi := Oper.mk (some 20) _ _ _ _ _) (v := ?v14) rfl (by kernel_rfl) (by kernel_rfl) (by kernel_rfl) (fun _ _ _ h => h) (Or.inl ⟨by rfl, ?hy14⟩) (by assumption) ?rest14
   case hy14 => (intro X hX; (try dsimp only at hX); go_simp; try with_reducible rfl)
   try go_frame
   refine wpAnyH_take (i := 15) (oi := Oper.mk (some 21) _ _ _ _ _) (v := ?v15) rfl (by kernel_rfl) (by kernel_rfl) (by kernel_rfl) (fun _ _ _ h => h) (Or.inl ⟨by rfl, ?hy15⟩) (by assumption) ?rest15
   case hy15 => (intro X hX; (try dsimp only at hX); go_simp; try with_reducible rfl)
   try go_frame
   refine wpAnyH_take (i := 16) (oi := Oper.mk (some 22) _ _ _ _ _) (v := ?v16) rfl (by kernel_rfl) (by kernel_rfl) (by kernel_rfl) (fun _ _ _ h => h) (Or.inl ⟨by rfl, ?hy16⟩) (by assumption) ?rest16
   case hy16 => (intro X hX; (try dsimp only at hX); go_simp; try with_reducible rfl)
   try go_frame
   refine wpAnyH_take (i := 17) (oi := Oper.mk (some 23) _ _ _ _ _) (v := ?v17) rfl (by kernel_rfl) (by kernel_rfl) (by kernel_rfl) (fun _ _ _ h => h) (Or.inl ⟨by rfl, ?hy17⟩) (by assumption) ?rest17
   case hy17 => (intro X hX; (try dsimp only at hX); go_simp; try with_reducible rfl)
   try go_frame
   refine wpAnyH_take (i := 19) (oi := Oper.mk (some 25) _ _ _ _ _) (v := ?v19) rfl (by kernel_rfl) (by kernel_rfl) (by kernel_rfl) (fun _ _ _ h => h) (Or.inl ⟨by rfl, ?hy19⟩) (by assumption) ?rest19
   case hy19 => (intro X hX; (try dsimp only at hX); go_simp; try with_reducible rfl)
   try go_frame
   refine wpAnyH_take (i := 20) (oi := Oper.mk (some 26) _ _ _ _ _) (v := ?v20) rfl (by kernel_rfl) (by kernel_rfl) (by kernel_rfl) (fun _ _ _ h => h) (Or.inl ⟨by rfl, ?hy20⟩) (by assumption) ?rest20
   case hy20 => (intro X hX; (try dsimp only at hX); go_simp; try with_reducible rfl)
   try go_frame
   refine wpAnyH_take (i := 21) (oi := Oper.mk (some 27) _ _ _ _ _) (v := ?v21) rfl (by kernel_rfl) (by kernel_rfl) (by kernel_rfl) (fun _ _ _ h => h) (Or.inl ⟨by rfl, ?hy21⟩) (by assumption) ?rest21
   case hy21 => (intro X hX; (try dsimp only at hX); go_simp; try with_reducible rfl)
   try go_frame
   refine wpAnyH_take (i := 22) (oi := Oper.mk (some 28) _ _ _ _ _) (v := ?v22) rfl (by kernel_rfl) (by kernel_rfl) (by kernel_rfl) (fun _ _ _ h => h) (Or.inl ⟨by rfl, ?hy22⟩) (by assumption) ?rest22
   case hy22 => (intro X hX; (try dsimp only at hX); go_simp; try with_reducible rfl)
   try go_frame
   refine wpAnyH_take (i := 23) (oi := Oper.mk (some 29) _ _ _ _ _) (v := ?v23) rfl (by kernel_rfl) (by kernel_rfl) (by kernel_rfl) (fun _ _ _ h => h) (Or.inl ⟨by rfl, ?hy23⟩) (by assumption) ?rest23
   case hy23 => (intro X hX; (try dsimp only at hX); go_simp; try with_reducible rfl)
   try go_frame
   refine wpAnyH_take (i := 24) (oi := Oper.mk (some 30) _ _ _ _ _) (v := ?v24) rfl (by kernel_rfl) (by kernel_rfl) (by kernel_rfl) (fun _ _ _ h => h) (Or.inl ⟨by rfl, ?hy24⟩) (by assumption) ?rest24
   case hy24 => (intro X hX; (try dsimp only at hX); go_simp; try with_reducible rfl)
   try go_frame
   refine wpAnyH_take (i := 25) (oi := Oper.mk (some 31) _ _ _ _ _) (v := ?v25) rfl (by kernel_rfl) (by kernel_rfl) (by kernel_rfl) (fun _ _ _ h => h) (Or.inl ⟨by rfl, ?hy25⟩) (by assumption) ?rest25
   case hy25 => (intro X hX; (try dsimp only at hX); go_simp; try with_reducible rfl)
   try go_frame
   refine wpAnyH_take (i := 26) (oi := Oper.mk (some 32) _ _ _ _ _) (v := ?v26) rfl (by kernel_rfl) (by kernel_rfl) (by kernel_rfl) (fun _ _ _ h => h) (Or.inl ⟨by rfl, ?hy26⟩) (by assumption) ?rest26
   case hy26 => (intro X hX; (try dsimp only at hX); go_simp; try with_reducible rfl)
   try go_frame
   refine wpAnyH_ready (rs := [18]) (by kernel_rfl) (by simp) ?_
   refine AllReadyH.cons (o := Oper.mk (some 24) _ _ _ _ _) rfl (fun Ka hKa => ?_) AllReadyH.nil
   go_simp
   refine Calls.mono (HC1.out _ (by first | exact Below.refl _ _ | exact (Below.refl _ _).drew)) ?_
   rintro e w7 ⟨rfl, hb7⟩
   have hB7 : Below w.heap.size w w7 := (by first | exact hb7 | exact ((Below.refl _ _).drew).trans hb7)
   go_wp2_with fail
   refine hKa.out _ _ (HV.out w7 hB7) (fun hHeld7 => ?_)
   clear hHeld hKa
   try go_frame
   refine wpAnyH_ready (rs := [27]) (by kernel_rfl) (by simp) ?_
   refine AllReadyH.cons (o := Oper.mk (some 33) _ _ _ _ _) rfl (fun Kb hKb => ?_) AllReadyH.nil
   go_simp
   refine Calls.mono (HC2.out _ hB7) ?_
   rintro e w8 ⟨rfl, hb8⟩
   have hB8 : Below w.heap.size w w8 := (hB7.trans (hb8.mono hB7.size))
   go_wp2_with fail
   refine hKb.out _ _ (HV.out w8 hB8) (fun hHeld8 => ?_)
   clear hHeld7 hKb
   try go_frame
   refine wpAnyH_take (i := 28) (oi := Oper.mk (some 34) _ _ _ _ _) (v := ?v28) rfl (by kernel_rfl) (by kernel_rfl) (by kernel_rfl) (fun _ _ _ h => h) (Or.inl ⟨by rfl, ?hy28⟩) (by assumption) ?rest28
   case hy28 => (intro X hX; (try dsimp only at hX); go_simp; try with_reducible rfl)
   try go_frame
   refine wpAnyH_take (i := 29) (oi := Oper.mk (some 35) _ _ _ _ _) (v := ?v29) rfl (by kernel_rfl) (by kernel_rfl) (by kernel_rfl) (fun _ _ _ h => h) (Or.inl ⟨by rfl, ?hy29⟩) (by assumption) ?rest29
   case hy29 => (intro X hX; (try dsimp only at hX); go_simp; try with_reducible rfl)
   try go_frame
   refine wpAnyH_take (i := 30) (oi := Oper.mk (some 36) _ _ _ _ _) (v := ?v30) rfl (by kernel_rfl) (by kernel_rfl) (by kernel_rfl) (fun _ _ _ h => h) (Or.inl ⟨by rfl, ?hy30⟩) (by assumption) ?rest30
   case hy30 => (intro X hX; (try dsimp only at hX); go_simp; try with_reducible rfl)
   try go_frame
   refine wpAnyH_take (i := 31) (oi := Oper.mk (some 37) _ _ _ _ _) (v := undef) rfl (by kernel_rfl) (by kernel_rfl) (by kernel_rfl) (fun _ _ _ h => h) (Or.inr ⟨by rfl, rfl⟩) (by assumption) ?rest31
   try go_frame
   refine wpAnyH_take (i := 32) (oi := Oper.mk (some 38) _ _ _ _ _) (v := undef) rfl (by kernel_rfl) (by kernel_rfl) (by kernel_rfl) (fun _ _ _ h => h) (Or.inr ⟨by rfl, rfl⟩) (by assumption) ?rest32
   try go_frame
   refine wpAnyH_take (i := 33) (oi := Oper.mk (some 39) _ _ _ _ _) (v := undef) rfl (by kernel_rfl) (by kernel_rfl) (by kernel_rfl) (fun _ _ _ h => h) (Or.inr ⟨by rfl, rfl⟩) (by assumption) ?rest33
   try go_frame
   refine wpAnyH_take (i := 34) (oi := Oper.mk (some 40) _ _ _ _ _) (v := undef) rfl (by kernel_rfl) (by kernel_rfl) (by kernel_rfl) (fun _ _ _ h => h) (Or.inr ⟨by rfl, rfl⟩) (by assumption) ?rest34
   try go_frame
   refine wpAnyH_take (i := 35) (oi := Oper.mk (some 41) _ _ _ _ _) (v := undef) rfl (by kernel_rfl) (by kernel_rfl) (by kernel_rfl) (fun _ _ _ h => h) (Or.inr ⟨by rfl, rfl⟩) (by assumption) ?rest35
   try go_frame
   refine wpAnyH_take (i := 36) (oi := Oper.mk (some 42) _ _ _ _ _) (v := undef) rfl (by kernel_rfl) (by kernel_rfl) (by kernel_rfl) (fun _ _ _ h => h) (Or.inr ⟨by rfl, rfl⟩) (by assumption) ?rest36
   try go_frame
   refine wpAnyH_take (i := 37) (oi := Oper.mk (some 43) _ _ _ _ _) (v := undef) rfl (by kernel_rfl) (by kernel_rfl) (by kernel_rfl) (fun _ _ _ h => h) (Or.inr ⟨by rfl, rfl⟩) (by assumption) ?rest37
   try go_frame
   refine wpAnyH_take (i := 38) (oi := Oper.mk (some 44) _ _ _ _ _) (v := undef) rfl (by kernel_rfl) (by kernel_rfl) (by kernel_rfl) (fun _ _ _ h => h) (Or.inr ⟨by rfl, rfl⟩) (by assumption) ?rest38
   try go_frame
   refine wpAnyH_take (i := 39) (oi := Oper.mk (some 45) _ _ _ _ _) (v := undef) rfl (by kernel_rfl) (by kernel_rfl) (by kernel_rfl) (fun _ _ _ h => h) (Or.inr ⟨by rfl, rfl⟩) (by assumption) ?rest39
   try go_frame
   refine wpAnyH_take (i := 40) (oi := Oper.mk (some 46) _ _ _ _ _) (v := undef) rfl (by kernel_rfl) (by kernel_rfl) (by kernel_rfl) (fun _ _ _ h => h) (Or.inr ⟨by rfl, rfl⟩) (by assumption) ?rest40
   try go_frame
   refine wpAnyH_take (i := 41) (oi := Oper.mk (some 47) _ _ _ _ _) (v := undef) rfl (by kernel_rfl) (by kernel_rfl) (by kernel_rfl) (fun _ _ _ h => h) (Or.inr ⟨by rfl, rfl⟩) (by assumption) ?rest41
   try go_frame
   refine wpAnyH_take (i := 42) (oi := Oper.mk (some 48) _ _ _ _ _) (v := ?v42) rfl (by kernel_rfl) (by kernel_rfl) (by kernel_rfl) (fun _ _ _ h => h) (Or.inl ⟨by rfl, ?hy42⟩) (by assumption) ?rest42
   case hy42 => (intro X hX; (try dsimp only at hX); go_simp; try with_reducible rfl)
   try go_frame
   refine wpAnyH_done (by kernel_rfl) ?_ _
   have HB8 : Hid (Below w.heap.size w w8) := hB8
   clear hb7 hB7 hb8 hB8 v0 v1 v2 v3 v4 v5 v6 v7 v8 v9 v10 v11 v12 v13 q1 HC1 HC2 hHeld8
   go_wp2_with fail
   go_ret
   exact SaD.no HNS.out HB8.out
 ·have q1 : (root.toList == root'.toList) = false := texts_ne hrt
  have HNS : Hid (¬ Same3 ta tb) := fun h => hrt (HSM.out.1 h).1
  clear hrt
  go_enter Tryz.func160, Tryz.ntmps160
  go_wp2_with fail
  go_region
  go_wp2_with fail
  go_ret
  exact SaD.no HNS.out (by first | exact (Below.refl _ _).drew | exact Below.refl _ _)
end Go.Proofs.YtadinjaocnlglaaGreatDoor
