/-
  Plain: what a stripe is, by the document's words.
  The document's found and good.
  The document's good.
  A row that is made longer while its owner still has the shorter one; rows full of one mark.
-/
import Derived.Test.YtadinjaocnlglaaGreatDoorZ38
import Derived.Test.YtadinjaocnlglaaGreatDoorZ36
import Derived.BigQuiet
import Derived.Test.YtadinjaocnlglaaGreatDoorZ28
import Derived.Test.YtadinjaocnlglaaGreatDoorZ08
namespace Go.Proofs.YtadinjaocnlglaaGreatDoor
open Go.RowKit
set_option maxRecDepth 100000
set_option maxHeartbeats 1000000
theorem jL_get {F : Nat → ByteArray} {C n i k : Nat} (hF : ∀ j, j < n → (F j).size = C) (hi : i < n) (hk : k < C) : (jL F n).getD (i * C + k) 0 = (F i).data.toList.getD k 0 := by
 obtain ⟨r, e⟩ := jL_split F n i hi
 have hl := jL_eq F C i (fun j hj => hF j (by omega))
 rw [e, List.append_assoc, List.getD_eq_getElem?_getD, List.getD_eq_getElem?_getD, List.getElem?_append_right (by omega), hl, Nat.add_sub_cancel_left, List.getElem?_append_left (by rw [dl, hF i hi]; exact hk)]
theorem tl_all {A : Nat → ByteArray} {K C s len : Nat} (hA : ∀ i, i < K → (A i).size = C) (hC : 1 ≤ C) : AllZ (tlT A K C s len) ↔ ∀ i, i < K → ∀ k, k < C → len ≤ s * (K * C) + i * C + k → (A i).data.toList.getD k 0 = 0 := by
 have hz : (jT A K).size = K * C := jT_eq A C K hA
 obtain ⟨e, he⟩ : ∃ e, min (len - s * (K * C)) (K * C) = e := ⟨_, rfl⟩
 have hsz : (tlT A K C s len).size = K * C - e := by unfold tlT; rw [ByteArray.size_extract, hz, Nat.min_self, he]
 have hget : ∀ j (hj : j < (tlT A K C s len).size), (tlT A K C s len)[j] = (jL A K).getD (e + j) 0 := fun j hj => by
  rw [get_list hj]
  rw [hsz] at hj
  unfold tlT
  rw [he, ext_get _ _ _ _ hj]
  show ((jL A K).toArray).toList.getD _ 0 = _
  rw [List.toList_toArray]
 constructor
 ·intro h i hi k hk hle
  have hp : i * C + k < K * C := by
   have : (i + 1) * C ≤ K * C := Nat.mul_le_mul_right _ hi
   rw [Nat.succ_mul] at this; omega
  have hj : i * C + k - e < (tlT A K C s len).size := by rw [hsz]; omega
  have h1 := h _ hj
  rw [hget _ hj, show e + (i * C + k - e) = i * C + k by omega, jL_get hA hi hk] at h1
  exact UInt8.toNat_inj.1 h1
 ·intro h j hj
  have hj2 : j < K * C - e := by rw [← hsz]; exact hj
  rw [hget j hj]
  have h1 := Nat.div_add_mod (e + j) C
  have h2 := Nat.mod_lt (e + j) hC
  have h3 : (e + j) / C < K := (Nat.div_lt_iff_lt_mul hC).2 (by omega)
  rw [Nat.mul_comm] at h1
  have h4 := h ((e + j) / C) h3 ((e + j) % C) h2 (by omega)
  rw [← h1, jL_get hA h3 h2, h4]
  rfl
def okJ (kt : Nat → Int) (K C : Nat) (lv : ByteArray) (o s len : Nat) (S : Nat → ByteArray) (h : Nat → Bool) (A : Nat → ByteArray) (i : Nat) : Prop :=
 leafT (ofT kt) (A i) = pc lv 32 (o + i) ∧ (h i = true → A i = S i) ∧ (i < K → ∀ k, k < C → len ≤ s * (K * C) + i * C + k → (A i).data.toList.getD k 0 = 0)
theorem frg_no {kt : Nat → Int} {K M C : Nat} {lv : ByteArray} {s len : Nat} {S : Nat → ByteArray} {h : Nat → Bool} {A : Nat → ByteArray} (hC : 1 ≤ C) (hA : ∀ i, i < K + M → (A i).size = C) (hok : ∀ i, i < K + M → okJ kt K C lv (s * (K + M)) s len S h A i) : frg kt K M C lv s len S h A = false := by
 unfold frg
 rw [if_pos (fun i hi => ?_)]
 ·rw [decide_eq_false_iff_not, Decidable.not_not, tz_nil, tl_all (fun i hi => hA i (by omega)) hC]
  intro i hi
  exact (hok i (by omega)).2.2 hi
 ·obtain ⟨h1, h2, _⟩ := hok i hi
  unfold okI goodB
  rw [hA i hi, h1]
  cases hh : h i with
  | false => simp
  | true => rw [h2 hh]; simp
theorem frg_yes {kt : Nat → Int} {K M C : Nat} {lv : ByteArray} {s len : Nat} {S : Nat → ByteArray} {h : Nat → Bool} {A : Nat → ByteArray} (hC : 1 ≤ C) (hA : ∀ i, i < K + M → (A i).size = C) {i : Nat} (hi : i < K + M) (hno : ¬ okJ kt K C lv (s * (K + M)) s len S h A i) : frg kt K M C lv s len S h A = true := by
 unfold frg
 split
 ·rename_i hall
  rw [decide_eq_true_iff]
  intro e
  rw [tz_nil, tl_all (fun i hi => hA i (by omega)) hC] at e
  have h1 := hall i hi
  unfold okI goodB at h1
  rw [Bool.and_eq_true] at h1
  obtain ⟨h2, h3⟩ := h1
  have h4 := (of_decide_eq_true h2).2
  refine hno ⟨h4, fun hh => ?_, fun hk => e i hk⟩
  rw [hh] at h3
  simpa using h3
 ·rfl
theorem md_res {S : Nat → ByteArray} {h : Nat → Bool} {k m c : Nat} (hkm : k + m ≤ 255) (hK : k ≤ cnt h (k + m)) (hB : ∀ i, i < k + m → h i = true → (S i).size = c) {x : Nat} (hx : x < k + m) : mdT S h k m c x = resT S (gt (knL h k (k + m))) k c x := by
 have hk : (knL h k (k + m)).length = k := by rw [knL_cnt]; omega
 have h1 := filled_ref S h k (k + m) c hkm hk hB x hx
 rw [mdT_eq] at h1
 exact Value.string.inj h1
theorem resT_size (B : Nat → ByteArray) (p : Nat → Nat) (k c x : Nat) : (resT B p k c x).size = c := txtN_size c _
theorem hsL_cntJ (h : Nat → Bool) : ∀ n, (hsL h n).length = cnt h n
 | 0 => rfl
 | n + 1 => by
  rw [hsL, cnt]
  split
  ·rw [List.length_append, hsL_cntJ h n]; rfl
  ·rw [hsL_cntJ h n]; rfl
theorem fate_1 {kt : Nat → Int} {T : TT} {bl : Nat → ByteArray} {s : Nat} (h : cnt (stH kt T bl s) (T.L.K + T.L.M) < T.L.K) : stF kt T bl s = 1 := by
 unfold stF fate
 rw [if_pos h]
theorem fate_2 {kt : Nat → Int} {T : TT} {bl : Nat → ByteArray} {s : Nat} (h : T.L.K ≤ cnt (stH kt T bl s) (T.L.K + T.L.M)) (hf : frg kt T.L.K T.L.M T.L.C T.lv s (lenE T.L.es) (stS T bl s) (stH kt T bl s) (stM kt T bl s) = true) : stF kt T bl s = 2 := by
 unfold stF fate
 rw [if_neg (by omega)]
 have : frg kt T.L.K T.L.M T.L.C T.lv s (lenE T.L.es) (stS T bl s) (stH kt T bl s) (mdT (stS T bl s) (stH kt T bl s) T.L.K T.L.M T.L.C) = true := hf
 rw [if_pos this]
theorem fate_0 {kt : Nat → Int} {T : TT} {bl : Nat → ByteArray} {s : Nat} (h : T.L.K ≤ cnt (stH kt T bl s) (T.L.K + T.L.M)) (hf : frg kt T.L.K T.L.M T.L.C T.lv s (lenE T.L.es) (stS T bl s) (stH kt T bl s) (stM kt T bl s) = false) : stF kt T bl s = 0 := by
 unfold stF fate
 rw [if_neg (by omega)]
 have : frg kt T.L.K T.L.M T.L.C T.lv s (lenE T.L.es) (stS T bl s) (stH kt T bl s) (mdT (stS T bl s) (stH kt T bl s) T.L.K T.L.M T.L.C) = false := hf
 rw [this]
 rfl
set_option maxHeartbeats 4000000
structure RB (kt : Nat → Int) (B v : Nat) (vH vU : Value) (hs : List (ByteArray × Nat)) (un : List Nat) (w : World) : Prop where
 row : w.heap[v]? = some (.cells #[vH, vU] 209 (0, 0))
 oH : w.ownsRow B 169 1 vH (hs.map Prod.snd).length (ptV (hs.map Prod.snd))
 oU : w.ownsRow B 3 1 vU un.length (unV un)
 hd : ∀ x ∈ hs, RHd kt B x.1 x.2 w
 lv : B ≤ v
theorem RV.rb {kt : Nat → Int} {w0 : World} {v : Nat} {vH vU : Value} {hs : List (ByteArray × Nat)} {un : List Nat} {w : World} (h : RV kt w0 v vH vU hs un w) : RB kt w0.heap.size v vH vU hs un w := ⟨h.row, h.oH, h.oU, h.hd, h.lv⟩
theorem RB.kept {kt : Nat → Int} {B v : Nat} {vH vU : Value} {hs : List (ByteArray × Nat)} {un : List Nat} {w w' : World} (h : RB kt B v vH vU hs un w) (hk : ∀ j, B ≤ j → j < w.heap.size → w'.heap[j]? = w.heap[j]?) : RB kt B v vH vU hs un w' where
 row := by rw [hk v h.lv (Array.getElem?_eq_some_iff.1 h.row).1]; exact h.row
 oH := own_kept h.oH (fun q hq => hk q (own_ge h.oH q hq) (own_lt h.oH q hq))
 oU := own_kept h.oU (fun q hq => hk q (own_ge h.oU q hq) (own_lt h.oU q hq))
 hd := fun x hx => by
  obtain ⟨h0, h1, vE, vL, vB, hr, oE, oL, oB⟩ := h.hd x hx
  exact ⟨h0, h1, vE, vL, vB, by rw [hk x.2 h1 (Array.getElem?_eq_some_iff.1 hr).1]; exact hr, own_kept oE (fun q hq => hk q (own_ge oE q hq) (own_lt oE q hq)), own_kept oL (fun q hq => hk q (own_ge oL q hq) (own_lt oL q hq)), own_kept oB (fun q hq => hk q (own_ge oB q hq) (own_lt oB q hq))⟩
 lv := h.lv
theorem RB.low {kt : Nat → Int} {B v : Nat} {vH vU : Value} {hs : List (ByteArray × Nat)} {un : List Nat} {w w' : World} (h : RB kt B v vH vU hs un w) (hb : Below w.heap.size w w') : RB kt B v vH vU hs un w' := h.kept (fun j _ hj => hb.block j hj)
theorem RHd.blocks {kt : Nat → Int} {B : Nat} {t : ByteArray} {h : Nat} {w : World} (H : RHd kt B t h w) : ∃ aB cB, w.cell? ⟨h, 8, none⟩ = some (.int .i64 ((tT t).first : Nat)) ∧ w.cell? ⟨h, 9, none⟩ = some (.slice aB (nB t) cB) ∧ ∀ i, i < nB t → ∃ g, aB = some ⟨g, 0, none⟩ ∧ w.cell? ⟨g, i, none⟩ = some (.string (pc (tRest t) (tT t).L.C i)) := by
 obtain ⟨_, _, vE, vL, vB, hr, _, _, oB⟩ := H
 have ho : w.ownsRow B 9 1 vB (nB t) (tV (pc (tRest t) (tT t).L.C) (nB t)) := oB
 obtain ⟨aB, cB, rfl⟩ := own_shape ho
 refine ⟨aB, cB, cell_of_row _ _ _ _ 174 _ hr, cell_of_row _ _ _ _ 174 _ hr, fun i hi => ?_⟩
 obtain ⟨g, e, _, hc⟩ := tV_cell ho hi
 exact ⟨g, e, hc⟩
def FnD (hs : List ByteArray) (n : Nat) (w : World) (e : Ending) (w' : World) : Prop := e = .returned (.tuple #[.string (blH hs n), .bool (covB hs n)]) ∧ Below w.heap.size w w'
theorem FnD.yes {kt : Nat → Int} {t0 : ByteArray} {hs : List ByteArray} (h : RSet kt t0 hs) {i n : Nat} {t b : ByteArray} {w w' : World} (ht : hs[i]? = some t) (hc : Cov t n) (hb : pc (tRest t) (tT t).L.C (n - (tT t).first) = b) (hw : Below w.heap.size w w') : FnD hs n w (.returned (.tuple #[.string b, .bool true])) w' := by
 refine ⟨?_, hw⟩
 rw [h.bl_yes ht hc, covB_yes (List.mem_of_getElem? ht) hc, hb]
theorem FnD.no {hs : List ByteArray} {n : Nat} {w w' : World} (h : ∀ t ∈ hs, ¬ Cov t n) (hw : Below w.heap.size w w') : FnD hs n w (.returned (.tuple #[.string ⟨#[]⟩, .bool false])) w' := by
 refine ⟨?_, hw⟩
 rw [bl_no h, covB_no h]
theorem rfound (kt : Nat → Int) (B v : Nat) (vH vU : Value) (hp : List (ByteArray × Nat)) (un : List Nat) (t0 : ByteArray) (n : Nat) (w : World) (H : RB kt B v vH vU hp un w) (hS : RSet kt t0 (hp.map Prod.fst)) (hn : n ≤ 100000) (hl : hp.length ≤ 100000000) :
  Calls Tryz.prog 254 #[.pointer (some ⟨v, 0, none⟩), .int .i64 n] w fun e w' => FnD (hp.map Prod.fst) n w e w' := by
 have HV : Hid _ := H
 have HS : Hid _ := hS
 obtain ⟨aH, cH, hvH⟩ := own_shape H.oH
 subst hvH
 obtain ⟨m, hm⟩ : ∃ x, (hp.map Prod.snd).length = x := ⟨_, rfl⟩
 have hml : hp.length = m := by rw [← hm]; simp
 have HPT : Hid (∀ (X : World) (j : Nat) (x : ByteArray × Nat), Below w.heap.size w X → hp[j]? = some x → ∃ g, aH = some ⟨g, 0, none⟩ ∧ X.cell? ⟨g, j, none⟩ = some (.pointer (some ⟨x.2, 0, none⟩)) ∧ RHd kt B x.1 x.2 X) := fun X j x hX hx => by
  have hR := HV.out.low hX
  obtain ⟨g, e, hc⟩ := ptV_cell hR.oH (i := j) (x := x.2) (by rw [List.getElem?_map, hx]; rfl)
  exact ⟨g, e, hc, hR.hd x (List.mem_of_getElem? hx)⟩
 have HCV : Hid (∀ X : World, Below w.heap.size w X → X.cell? ⟨v, 0, none⟩ = some (.slice aH m cH)) := fun X hX => by rw [← hm]; exact cell_of_row _ _ _ _ 209 _ (HV.out.low hX).row
 have HML : Hid _ := hml
 have hm1 : m ≤ 100000000 := by omega
 clear H hS hm hml hl
 go_enter Tryz.func254, Tryz.ntmps254
 go_wp2_with fail
 go_loopw [6, 7] (fun iv _ wr => ∃ i : Nat, i ≤ m ∧ iv = .int .i64 i ∧ (∀ j x, j < i → hp[j]? = some x → ¬ Cov x.1 n) ∧ Below w.heap.size w wr) (fun iv _ _ => m - (intOf iv).toNat)
 case atStart => exact ⟨0, Nat.zero_le _, rfl, fun j x hj => by omega, Below.refl _ _⟩
 case round =>
  obtain ⟨i, hi, rfl, hE, hBw⟩ := hrel
  have HE : Hid _ := hE
  have HBW : Hid (Below w.heap.size w wr) := hBw
  have a0 := HCV.out wr hBw
  clear hE hBw
  by_cases hlt : i < m
  ·have hlt' : (i : Int) < (m : Int) := by omega
   obtain ⟨x, hx⟩ : ∃ x, hp[i]? = some x := ⟨_, List.getElem?_eq_getElem (by have := HML.out; omega)⟩
   obtain ⟨g, rfl, c0, hh⟩ := HPT.out wr i x HBW.out hx
   obtain ⟨aB, cB, d8, d9, hbk⟩ := hh.blocks
   obtain ⟨f, hf⟩ : ∃ y, (tT x.1).first = y := ⟨_, rfl⟩
   obtain ⟨b, hb⟩ : ∃ y, nB x.1 = y := ⟨_, rfl⟩
   have hfb : f + b ≤ 100000 := by
    have h1 := (vol_fit hh.1).2
    have h2 := (ck_ok (rd_none hh.1).2.1 : Told1 (tT x.1)).cnt
    have h3 : (tT x.1).first + nB x.1 ≤ (tT x.1).L.cnt := h1
    have h4 : (tT x.1).L.cnt ≤ 512 := h2
    omega
   have HX : Hid (hp[i]? = some x) := hx
   have HFF : Hid _ := hf
   have HBB : Hid _ := hb
   rw [hf] at d8
   rw [hb] at d9 hbk
   clear hx hh hf hb
   by_cases h1 : f ≤ n
   ·have p1 : decide ((f : Int) ≤ (n : Int)) = true := by simp; omega
    have p5 : (f : Int) ≤ (n : Int) := by omega
    by_cases h2 : n < f + b
    ·obtain ⟨g2, rfl, e0⟩ := hbk (n - f) (by omega)
     obtain ⟨bt, hbt⟩ : ∃ y, pc (tRest x.1) (tT x.1).L.C (n - f) = y := ⟨_, rfl⟩
     rw [hbt] at e0
     have HBT : Hid _ := hbt
     clear hbt hbk
     have p2 : decide ((n : Int) < (f : Int) + (b : Int)) = true := by simp; omega
     have p4 : ((n - f : Nat) : Int) < (b : Int) := by omega
     have p6 : (n : Int) < (f : Int) + (b : Int) := by omega
     go_wp2_with fail
     go_quiet (fail)
     obtain ⟨X2, hX2⟩ : ∃ X, wr.drewN nq = X := ⟨_, rfl⟩
     have HB2 : Hid (Below w.heap.size w X2) := by show Below _ _ _; rw [← hX2]; exact below_drewN HBW.out nq
     have y8 : X2.cell? ⟨x.2, 8, none⟩ = some (.int .i64 f) := by rw [← hX2]; exact d8
     have y9 : X2.cell? ⟨x.2, 9, none⟩ = some (.slice (some ⟨g2, 0, none⟩) b cB) := by rw [← hX2]; exact d9
     have z0 : X2.cell? ⟨g2, n - f, none⟩ = some (.string bt) := by rw [← hX2]; exact e0
     have p3 : (n : Int) - (f : Int) = ((n - f : Nat) : Int) := by omega
     rw [hX2]
     clear hX2 a0 c0 d8 d9 e0
     go_wp2_with fail
     go_quiet (fail)
     go_wp2_with fail
     go_ret2
     exact FnD.yes HS.out (by rw [List.getElem?_map, HX.out]; rfl) (by unfold Cov; rw [HFF.out, HBB.out]; omega) (by rw [HFF.out]; exact HBT.out) (below_drewN HB2.out _)
    ·have p2 : decide ((n : Int) < (f : Int) + (b : Int)) = false := by simp; omega
     have p6 : ¬ (n : Int) < (f : Int) + (b : Int) := by omega
     have HNC : Hid (∀ j y, j < i + 1 → hp[j]? = some y → ¬ Cov y.1 n) := fun j y hj hy => by
      by_cases e : j = i
      ·rw [e, HX.out] at hy
       cases hy
       unfold Cov
       rw [HFF.out, HBB.out]
       omega
      ·exact HE.out j y (by omega) hy
     go_wp2_with fail
     go_quiet (fail)
     go_wp2_with fail
     go_roundw
     case rel => exact ⟨i + 1, by omega, by go_num, HNC.out, below_drewN HBW.out _⟩
     case measure => simp [intOf]; omega
   ·have p1 : decide ((f : Int) ≤ (n : Int)) = false := by simp; omega
    have p5 : ¬ (f : Int) ≤ (n : Int) := by omega
    have HNC : Hid (∀ j y, j < i + 1 → hp[j]? = some y → ¬ Cov y.1 n) := fun j y hj hy => by
     by_cases e : j = i
     ·rw [e, HX.out] at hy
      cases hy
      unfold Cov
      rw [HFF.out, HBB.out]
      omega
     ·exact HE.out j y (by omega) hy
    go_wp2_with fail
    go_quiet (fail)
    go_wp2_with fail
    go_roundw
    case rel => exact ⟨i + 1, by omega, by go_num, HNC.out, below_drewN HBW.out _⟩
    case measure => simp [intOf]; omega
  ·have hlt' : ¬ (i : Int) < (m : Int) := by omega
   have HNC : Hid (∀ t ∈ hp.map Prod.fst, ¬ Cov t n) := fun t ht => by
    obtain ⟨x, hx, rfl⟩ := List.mem_map.1 ht
    obtain ⟨j, hj⟩ := List.getElem?_of_mem hx
    exact HE.out j x (by have := (List.getElem?_eq_some_iff.1 hj).1; have := HML.out; omega) hj
   go_wp2_with fail
   go_ret2
   exact FnD.no HNC.out HBW.out
theorem RHd.leaves {kt : Nat → Int} {B : Nat} {t : ByteArray} {h : Nat} {w : World} (H : RHd kt B t h w) : ∃ aL cL, w.cell? ⟨h, 7, none⟩ = some (.slice aL (tT t).L.cnt cL) ∧ ∀ i, i < (tT t).L.cnt → ∃ g, aL = some ⟨g, 0, none⟩ ∧ w.cell? ⟨g, i, none⟩ = some (.string (pc (tT t).lv 32 i)) := by
 obtain ⟨_, _, vE, vL, vB, hr, _, oL, _⟩ := H
 have ho : w.ownsRow B 9 1 vL (tT t).L.cnt (tV (pc (tT t).lv 32) (tT t).L.cnt) := oL
 obtain ⟨aL, cL, rfl⟩ := own_shape ho
 refine ⟨aL, cL, cell_of_row _ _ _ _ 174 _ hr, fun i hi => ?_⟩
 obtain ⟨g, e, _, hc⟩ := tV_cell ho hi
 exact ⟨g, e, hc⟩
theorem RHd.nums {kt : Nat → Int} {B : Nat} {t : ByteArray} {h : Nat} {w : World} (H : RHd kt B t h w) : w.cell? ⟨h, 0, none⟩ = some (.int .i64 ((tT t).L.K : Nat)) ∧ w.cell? ⟨h, 1, none⟩ = some (.int .i64 ((tT t).L.M : Nat)) ∧ w.cell? ⟨h, 2, none⟩ = some (.int .i64 ((tT t).L.C : Nat)) ∧ w.cell? ⟨h, 3, none⟩ = some (.int .i64 ((tT t).L.V : Nat)) := by
 obtain ⟨_, _, vE, vL, vB, hr, _⟩ := H
 exact ⟨cell_of_row _ _ _ _ 174 _ hr, cell_of_row _ _ _ _ 174 _ hr, cell_of_row _ _ _ _ 174 _ hr, cell_of_row _ _ _ _ 174 _ hr⟩
theorem RHd.ents {kt : Nat → Int} {B : Nat} {t : ByteArray} {h : Nat} {w : World} (H : RHd kt B t h w) : ∃ aE cE, w.cell? ⟨h, 5, none⟩ = some (.slice aE (tT t).L.es.length cE) ∧ w.ownsRow B 70 2 (.slice aE (tT t).L.es.length cE) (tT t).L.es.length (enV (tT t).L.es) := by
 obtain ⟨_, _, vE, vL, vB, hr, oE, _⟩ := H
 have ho : w.ownsRow B 70 2 vE (tT t).L.es.length (enV (tT t).L.es) := oE
 obtain ⟨aE, cE, rfl⟩ := own_shape ho
 exact ⟨aE, cE, cell_of_row _ _ _ _ 174 _ hr, ho⟩
theorem RB.top {kt : Nat → Int} {B v : Nat} {vH vU : Value} {hp : List (ByteArray × Nat)} {un : List Nat} {t0 : ByteArray} {w : World} (h : RB kt B v vH vU hp un w) (hS : RSet kt t0 (hp.map Prod.fst)) : ∃ h0 g0 cH, vH = .slice (some ⟨g0, 0, none⟩) hp.length cH ∧ 0 < hp.length ∧ w.cell? ⟨v, 0, none⟩ = some (.slice (some ⟨g0, 0, none⟩) hp.length cH) ∧ w.cell? ⟨g0, 0, none⟩ = some (.pointer (some ⟨h0, 0, none⟩)) ∧ RHd kt B t0 h0 w := by
 cases hp with
 | nil => have := hS.head; cases this
 | cons x r =>
  have h0 : x.1 = t0 := by have := hS.head; simpa using this
  obtain ⟨aH, cH, rfl⟩ := own_shape h.oH
  obtain ⟨g0, e, hc⟩ := ptV_cell h.oH (i := 0) (x := x.2) rfl
  subst e
  have hl : ((x :: r).map Prod.snd).length = (x :: r).length := by simp
  have hrow := h.row
  rw [hl] at hrow
  exact ⟨x.2, g0, cH, by rw [hl], by simp, cell_of_row _ _ _ _ 209 _ hrow, hc, by rw [← h0]; exact h.hd x List.mem_cons_self⟩
def GoD (kt : Nat → Int) (t0 : ByteArray) (hs : List ByteArray) (n : Nat) (w : World) (e : Ending) (w' : World) : Prop := e = .returned (.tuple #[.string (blH hs n), .bool (goodB kt (tT t0).L.C (tT t0).lv n (blH hs n))]) ∧ Below w.heap.size w w'
theorem leafT_of (D : ByteArray → ByteArray) (s : ByteArray) : leafT D s = D (⟨#[0]⟩ ++ s) := rfl
theorem rgood (kt : Nat → Int) (B v : Nat) (vH vU : Value) (hp : List (ByteArray × Nat)) (un : List Nat) (t0 : ByteArray) (n : Nat) (w : World) (H : RB kt B v vH vU hp un w) (hS : RSet kt t0 (hp.map Prod.fst)) (hG : Gr kt w) (hn : n < (tT t0).L.cnt) (hl : hp.length ≤ 100000000) :
  Calls Tryz.prog 208 #[.pointer (some ⟨v, 0, none⟩), .int .i64 n] w fun e w' => GoD kt t0 (hp.map Prod.fst) n w e w' := by
 have hT : Told1 (tT t0) := ck_ok (rd_none (hS.rd t0 hS.mem0)).2.1
 have hcnt := hT.cnt
 have HFN : Hid _ := rfound kt B v vH vU hp un t0 n w H hS (by omega) hl
 obtain ⟨h0, g0, cH, rfl, hm, c0, c1, hh⟩ := H.top hS
 obtain ⟨aL, cL, c2, hLL⟩ := hh.leaves
 obtain ⟨gL, rfl, c3⟩ := hLL n hn
 obtain ⟨m, hme⟩ : ∃ x, hp.length = x := ⟨_, rfl⟩
 obtain ⟨cnt, hce⟩ : ∃ x, (tT t0).L.cnt = x := ⟨_, rfl⟩
 obtain ⟨lf, hlf⟩ : ∃ x, pc (tT t0).lv 32 n = x := ⟨_, rfl⟩
 obtain ⟨b, hb⟩ : ∃ x, blH (hp.map Prod.fst) n = x := ⟨_, rfl⟩
 obtain ⟨d, hd⟩ : ∃ x, ofT kt (⟨#[0]⟩ ++ b) = x := ⟨_, rfl⟩
 have HGO : Hid (goodB kt (tT t0).L.C (tT t0).lv n b = (covB (hp.map Prod.fst) n && decide (d = lf))) := by
  show _ = _
  rw [← hb, hS.good, hb, leafT_of, hd, hlf]
 have hbs : b.size ≤ 64 := by
  rw [← hb]
  cases hc : covB (hp.map Prod.fst) n with
  | true => rw [(hS.bl_size n).1 hc]; exact hT.c64
  | false => rw [(hS.bl_size n).2 hc]; decide
 have HEM : Hid (covB (hp.map Prod.fst) n = false → b = ⟨#[]⟩) := fun e => by rw [← hb]; exact (hS.bl_size n).2 e
 rw [hme] at c0 hm
 rw [hce] at c2 hn hcnt
 rw [hlf] at c3
 have HB : Hid _ := hb
 have HD : Hid (∀ X : World, Below w.heap.size w X → Calls Tryz.prog 192 #[.string (⟨#[0]⟩ ++ b)] X fun e w' => e = .returned (.string d) ∧ Below X.heap.size X w') := fun X hX => by
  rw [← hd]
  exact rdigest_any kt _ X (by rw [ByteArray.size_append]; show 1 + b.size ≤ _; omega) (hG.below hX)
 have HLF : Hid (∀ X : World, Calls Tryz.prog 88 #[.string b] X fun e w' => e = .returned (.string (⟨#[0]⟩ ++ b)) ∧ w' = X) := fun X => rleaf_any b X (by omega)
 obtain ⟨z, hz⟩ : ∃ z : ByteArray, ⟨#[0]⟩ ++ b = z := ⟨_, rfl⟩
 rw [hz] at HD HLF
 have HV : Hid (∀ X : World, Below w.heap.size w X → X.cell? ⟨v, 0, none⟩ = some (.slice (some ⟨g0, 0, none⟩) m cH) ∧ X.cell? ⟨g0, 0, none⟩ = some (.pointer (some ⟨h0, 0, none⟩)) ∧ X.cell? ⟨h0, 7, none⟩ = some (.slice (some ⟨gL, 0, none⟩) cnt cL) ∧ X.cell? ⟨gL, n, none⟩ = some (.string lf)) := fun X hX =>
  ⟨(hX.cell (p := ⟨v, 0, none⟩) (block_lt_of_cell c0)).trans c0, (hX.cell (p := ⟨g0, 0, none⟩) (block_lt_of_cell c1)).trans c1, (hX.cell (p := ⟨h0, 7, none⟩) (block_lt_of_cell c2)).trans c2, (hX.cell (p := ⟨gL, n, none⟩) (block_lt_of_cell c3)).trans c3⟩
 have hm' : (0 : Int) < (m : Int) := by omega
 have hn' : (n : Int) < (cnt : Int) := by omega
 clear H hS hG hLL hT hh c0 c1 c2 c3 hlf hb hd hz hme hce
 go_enter Tryz.func208, Tryz.ntmps208
 go_wp2_with fail
 refine Calls.mono HFN.out ?_
 rintro e w1 ⟨rfl, hb1⟩
 have HB1 : Hid _ := hb1
 rw [HB.out]
 cases hc : covB (hp.map Prod.fst) n with
 | false =>
  have HR : Hid (goodB kt (tT t0).L.C (tT t0).lv n b = false) := by show _ = _; rw [HGO.out, hc]; rfl
  have HE : Hid (b = ⟨#[]⟩) := HEM.out hc
  clear hb1 hc
  go_wp2_with fail
  go_ret2
  exact ⟨by rw [HB.out, HR.out, HE.out]; rfl, HB1.out⟩
 | true =>
  have HR : Hid (goodB kt (tT t0).L.C (tT t0).lv n b = decide (d = lf)) := by show _ = _; rw [HGO.out, hc]; rfl
  obtain ⟨v0, v1, v2, v3⟩ := HV.out w1 hb1
  clear hb1 hc
  go_wp2_with fail
  go_region_held3 (fun w2 => w2.cell? ⟨v, 0, none⟩ = some (.slice (some ⟨g0, 0, none⟩) m cH) ∧ w2.cell? ⟨g0, 0, none⟩ = some (.pointer (some ⟨h0, 0, none⟩)) ∧ w2.cell? ⟨h0, 7, none⟩ = some (.slice (some ⟨gL, 0, none⟩) cnt cL) ∧ w2.cell? ⟨gL, n, none⟩ = some (.string lf)) (first | exact ⟨y0, y1, y2, y3⟩ | exact ⟨v0, v1, v2, v3⟩ | go_keep) (first | (go_at_call 192; refine Calls.mono (HD.out _ (by first | exact HB1.out | exact HB1.out.drew)) ?_; rintro e w8 ⟨rfl, hb8⟩; have hB8 : Below w.heap.size w w8 := (by first | exact HB1.out.trans (hb8.mono HB1.out.size) | exact (HB1.out.drew).trans (hb8.mono (HB1.out.drew).size)); obtain ⟨y0, y1, y2, y3⟩ := HV.out w8 hB8) | (go_at_call 88; refine Calls.mono (HLF.out _) ?_; rintro e w7 ⟨rfl, rfl⟩))
  have hq : (d.toList == lf.toList) = decide (d = lf) := by
   by_cases e : d = lf
   ·rw [texts_eq e, decide_eq_true e]
   ·rw [texts_ne e, decide_eq_false e]
  rw [hq]
  have HB8 : Hid _ := hB8
  clear hb8 hB8 y0 y1 y2 y3 v0 v1 v2 v3 hq
  go_wp2_with fail
  go_ret2
  exact ⟨by rw [HB.out, HR.out]; rfl, HB8.out⟩
theorem own_pre {w : World} {B : Nat} {e : TypeId} {size : Nat} {g n m cap : Nat} {xs ys : List Value} (h : w.ownsRow B e size (.slice (some ⟨g, 0, none⟩) (n + m) cap) (n + m) (xs ++ ys)) (hx : xs.length = n * size) : w.ownsRow B e size (.slice (some ⟨g, 0, none⟩) n cap) n xs := by
 refine ⟨hx, ?_⟩
 rcases h.2 with ⟨h1, _⟩ | ⟨g', cap', cur, h1, h2, h3, h4, h5, h6, h7⟩
 ·cases h1
 ·cases h1
  refine .inr ⟨g, cap, cur, rfl, h2, h3, by omega, h5, h6, ?_⟩
  have e1 : cur.toList.take (n * size) = (cur.toList.take ((n + m) * size)).take (n * size) := by
   rw [List.take_take, Nat.min_eq_left (Nat.mul_le_mul_right _ (by omega))]
  rw [e1, h7, ← hx, List.take_left]
theorem app_two {w : World} {B B' : Nat} {t e : TypeId} {i : TypeInfo} {z : Value} {size bytes : Nat} (ty : TypeId) (ht : Tryz.prog.underlying t = some (.slice e)) (hi : Tryz.prog.info? e = some i) (hz : i.zero = some z) (hs : i.size = size) (hb : i.bytes = bytes) (hzs : z.cells.size = size) (hs0 : 0 < size)
  {v : Value} {g c : Nat} {n m : Nat} {xs ys : List Value} (hv : w.ownsRow B e size v n xs) (hu : w.ownsRow B' e size (.slice (some ⟨g, 0, none⟩) m c) m ys) (h1 : ∀ u ∈ ys, u.oneCell' = true) (hm : 0 < m) (hn : (n + m) * bytes ≤ 140737488355328) (hn2 : n + m ≤ 100000000000000) (hB : B ≤ w.heap.size) :
  ∃ v' w', (Builtin.append_ #[t, t] ty #[v, .slice (some ⟨g, 0, none⟩) m c]).run Tryz.prog w = .ok v' w' ∧ w'.ownsRow B e size v' (n + m) (xs ++ ys) ∧ w.grownBy w' v.ownBlock ∧ w'.ownsRow B e size v n xs ∧ (v'.ownBlock = v.ownBlock ∨ (v'.ownBlock = some w.heap.size ∧ Below w.heap.size w w')) := by
 obtain ⟨v', w', h2, h3, h4, h6, h5⟩ := run_append_own_at (P := Tryz.prog) w B t ty e i z size bytes ht hi hz hs hb hzs hs0 v n xs hv ⟨g, 0, none⟩ m c ys hu.1 (hu.cells rfl) h1 (by unfold maxLen; omega) hn hB
 refine ⟨v', w', h2, h3, h4, ?_⟩
 rcases hv.2 with ⟨rfl, rfl⟩ | ⟨gv, cap, cur, rfl, hbg, hg, hnc, hcm, hcs, htake⟩
 ·have hBel : Below w.heap.size w w' := (Below.refl _ _).grown h4 (Nat.le_refl _) (fun y hy => by cases hy)
  refine ⟨⟨hv.1, .inl ⟨rfl, rfl⟩⟩, .inr ⟨?_, hBel⟩⟩
  rcases h5 with h5 | h5
  ·exfalso
   rcases h3.2 with ⟨h7, h8⟩ | ⟨g2, c2, cur2, h7, _⟩
   ·omega
   ·rw [h7] at h5; cases h5
  ·exact h5
 ·subst hs
  subst hb
  by_cases hroom : n + m ≤ cap
  ·have hfit : n * i.size + ys.length ≤ cur.size := by rw [hu.1, hcs, ← Nat.add_mul]; exact Nat.mul_le_mul_right _ hroom
   have hr2 := run_append_room (P := Tryz.prog) w t ty e i ht hi gv n cap cur hg ⟨g, 0, none⟩ m c ys hu.1 (hu.cells rfl) h1 hroom hfit
   rw [h2] at hr2
   have e1 := (Result.ok.inj hr2).1
   rw [e1] at h3
   exact ⟨own_pre h3 hv.1, .inl (by rw [e1]; rfl)⟩
  ·have hr2 := run_append_grow (P := Tryz.prog) w t ty e i z ht hi hz ⟨gv, 0, none⟩ n cap xs hv.1 (hv.cells (g := gv) rfl) ⟨g, 0, none⟩ m c ys hu.1 (hu.cells rfl) (by omega) (by omega) (growslice_fits (by omega) hn)
   rw [h2] at hr2
   have e1 := (Result.ok.inj hr2).1
   have e2 := (Result.ok.inj hr2).2
   have hBel : Below w.heap.size w w' := by
    rw [e2]
    exact ((Below.refl _ _).drew).alloc (Nat.le_refl _) _
   exact ⟨own_kept hv (fun q hq => hBel.block q (own_lt hv q hq)), .inr ⟨by rw [e1]; rfl, hBel⟩⟩
def repG (mk : List Value) : Nat → List Value
 | 0 => []
 | n + 1 => repG mk n ++ mk
theorem repG_len (mk : List Value) : ∀ n, (repG mk n).length = n * mk.length
 | 0 => by simp [repG]
 | n + 1 => by rw [repG, List.length_append, repG_len mk n, Nat.succ_mul]
theorem repG_add (mk : List Value) (n : Nat) : ∀ m, repG mk (n + m) = repG mk n ++ repG mk m
 | 0 => by simp [repG]
 | m + 1 => by rw [← Nat.add_assoc, repG, repG_add mk n m, repG, List.append_assoc]
theorem repG_get (mk : List Value) : ∀ n i f, i < n → f < mk.length → (repG mk n)[i * mk.length + f]? = mk[f]?
 | 0, i, f, h, _ => by omega
 | n + 1, i, f, h, hf => by
  by_cases e : i = n
  ·subst e
   rw [repG, List.getElem?_append_right (by rw [repG_len]; omega), repG_len, Nat.add_sub_cancel_left]
  ·have h1 : (i + 1) * mk.length ≤ n * mk.length := Nat.mul_le_mul_right _ (by omega)
   rw [Nat.succ_mul] at h1
   rw [repG, List.getElem?_append_left (by rw [repG_len]; omega)]
   exact repG_get mk n i f (by omega) hf
theorem repG_one (mk : List Value) (h : ∀ u ∈ mk, u.oneCell' = true) : ∀ n, ∀ u ∈ repG mk n, u.oneCell' = true
 | 0, u, hu => by cases hu
 | n + 1, u, hu => by
  rcases List.mem_append.1 hu with hu | hu
  ·exact repG_one mk h n u hu
  ·exact h u hu
def FulG (w : World) (ty sz : Nat) (mk : List Value) (v : Value) : Prop := ∃ a n c, v = .slice a n c ∧ n ≤ 1000000000000 ∧ (n = 0 ∨ ∃ g cur, a = some ⟨g, 0, none⟩ ∧ w.heap[g]? = some (.cells cur ty (0, 0)) ∧ ∀ i, i < n → ∀ f, f < sz → cur[i * sz + f]? = mk[f]?)
theorem FulG.kept {w w' : World} {ty sz : Nat} {mk : List Value} {v : Value} (h : FulG w ty sz mk v) (hk : ∀ q cur, v.ownBlock = some q → w.heap[q]? = some (.cells cur ty (0, 0)) → w'.heap[q]? = w.heap[q]?) : FulG w' ty sz mk v := by
 obtain ⟨a, n, c, rfl, h2, h3⟩ := h
 refine ⟨a, n, c, rfl, h2, ?_⟩
 rcases h3 with h3 | ⟨g, cur, rfl, h4, h5⟩
 ·exact .inl h3
 ·exact .inr ⟨g, cur, rfl, by rw [hk g cur rfl h4]; exact h4, h5⟩
theorem own_ful {w : World} {B ty sz n : Nat} {mk : List Value} {v : Value} (h : w.ownsRow B ty sz v n (repG mk n)) (hm : mk.length = sz) (hn : n ≤ 1000000000000) : FulG w ty sz mk v := by
 rcases h.2 with ⟨h1, h'⟩ | ⟨g, cap, cur, hv, hb, hh, hcap, _, hcs, htk⟩
 ·exact ⟨none, 0, 0, h1, by omega, .inl rfl⟩
 ·refine ⟨some ⟨g, 0, none⟩, n, cap, hv, hn, .inr ⟨g, cur, rfl, hh, fun i hi f hf => ?_⟩⟩
  have h1 : (i + 1) * sz ≤ n * sz := Nat.mul_le_mul_right _ (by omega)
  rw [Nat.succ_mul] at h1
  have e : (cur.toList.take (n * sz))[i * sz + f]? = mk[f]? := by
   rw [htk, ← hm]
   exact repG_get mk n i f hi (by omega)
  rw [List.getElem?_take, if_pos (by omega), Array.getElem?_toList] at e
  exact e
theorem FulG.less {w : World} {ty sz : Nat} {mk : List Value} {g n m c c' : Nat} (h : FulG w ty sz mk (.slice (some ⟨g, 0, none⟩) n c)) (hm : m ≤ n) : FulG w ty sz mk (.slice (some ⟨g, 0, none⟩) m c') := by
 obtain ⟨a, n', c2, e, h2, h3⟩ := h
 cases e
 refine ⟨_, m, c', rfl, by omega, ?_⟩
 rcases h3 with h3 | ⟨g', cur, e, h4, h5⟩
 ·exact .inl (by omega)
 ·cases e
  exact .inr ⟨g, cur, rfl, h4, fun i hi => h5 i (by omega)⟩
theorem FulG.after {w w' : World} {ty sz B : Nat} {mk : List Value} {v a v' : Value} {n k1 k2 : Nat} (hm : mk.length = sz) (ha : FulG w ty sz mk a) (hal : ∀ q, a.ownBlock = some q → q < w.heap.size) (hab : a.ownBlock = v.ownBlock → ∃ x c, a = .slice x (n + k1) c) (hk : k1 ≤ k2) (hv' : w'.ownsRow B ty sz v' (n + k2) (repG mk (n + k2))) (hg : w.grownBy w' v.ownBlock) (hc : v'.ownBlock = v.ownBlock ∨ (v'.ownBlock = some w.heap.size ∧ Below w.heap.size w w')) (hn : n + k2 ≤ 1000000000000) : FulG w' ty sz mk a := by
 by_cases e : a.ownBlock = v.ownBlock
 ·rcases hc with h1 | ⟨_, hB⟩
  ·obtain ⟨x, c, rfl⟩ := hab e
   have hF := own_ful hv' hm hn
   rcases hv'.2 with ⟨h2, h3⟩ | ⟨g, cap, cur, h2, _⟩
   ·refine ⟨x, n + k1, c, rfl, by omega, .inl (by omega)⟩
   ·subst h2
    have e2 : (Value.slice x (n + k1) c).ownBlock = some g := by rw [e, ← h1]; rfl
    cases x with
    | none => cases e2
    | some y =>
     rcases ha with ⟨a2, n2, c2, e3, h4, h5⟩
     cases e3
     rcases h5 with h5 | ⟨g2, cur2, e4, _⟩
     ·exact ⟨_, _, _, rfl, by omega, .inl h5⟩
     ·cases e4
      have : g2 = g := by simpa [Value.ownBlock] using e2
      subst this
      exact hF.less (by omega)
  ·exact ha.kept (fun q cur hq _ => hB.block q (hal q hq))
 ·exact ha.kept (fun q cur hq _ => hg.block q (hal q hq) (fun e2 => e (by rw [hq, e2])))
structure Ent where
 l : Value
 a : Value
 b : Value
 c : Value
 m : Value
def Ent.vals (e : Ent) : List Value := [e.l, e.a, e.b, e.c, e.m]
def Ent.has (e : Ent) (q : Nat) : Prop := e.l.ownBlock = some q ∨ e.a.ownBlock = some q ∨ e.b.ownBlock = some q ∨ e.c.ownBlock = some q
def Ent.ok (w : World) (ty sz : Nat) (mk : Value → List Value) (e : Ent) : Prop := FulG w ty sz (mk e.m) e.l ∧ FulG w ty sz (mk e.m) e.a ∧ FulG w ty sz (mk e.m) e.b ∧ FulG w ty sz (mk e.m) e.c
theorem Ent.ok.kept {w w' : World} {ty sz : Nat} {mk : Value → List Value} {e : Ent} (h : e.ok w ty sz mk) (hk : ∀ q cur, e.has q → w.heap[q]? = some (.cells cur ty (0, 0)) → w'.heap[q]? = w.heap[q]?) : e.ok w' ty sz mk :=
 ⟨h.1.kept (fun q cur hq => hk q cur (.inl hq)), h.2.1.kept (fun q cur hq => hk q cur (.inr (.inl hq))), h.2.2.1.kept (fun q cur hq => hk q cur (.inr (.inr (.inl hq)))), h.2.2.2.kept (fun q cur hq => hk q cur (.inr (.inr (.inr hq))))⟩
def flatG (X : List Ent) : List Value := X.flatMap Ent.vals
theorem flatG_get : ∀ (X : List Ent) (i f : Nat) (h : i < X.length), f < 5 → (flatG X)[i * 5 + f]? = X[i].vals[f]?
 | [], i, f, h, _ => by simp at h
 | e :: X, 0, f, _, hf => by
  rw [flatG, List.flatMap_cons, List.getElem?_append_left (by simp [Ent.vals]; omega)]; simp
 | e :: X, i + 1, f, h, hf => by
  have hl : e.vals.length = 5 := rfl
  rw [flatG, List.flatMap_cons, List.getElem?_append_right (by rw [hl]; omega), hl, show (i + 1) * 5 + f - 5 = i * 5 + f by omega]
  exact flatG_get X i f (by simpa using h) hf
theorem own_flatG {w : World} {base c ty : Nat} {a : Option Addr} {X : List Ent} (h : w.ownsRow base ty 5 (.slice a X.length c) X.length (flatG X)) (i : Nat) (hi : i < X.length) : ∃ g, a = some ⟨g, 0, none⟩ ∧ g < w.heap.size ∧ ∀ f, (hf : f < 5) → w.cell? ⟨g, i * 5 + f, none⟩ = (X[i].vals)[f]? := by
 rcases h.2 with ⟨_, h'⟩ | ⟨g, cap, cur, hv, hb, hh, _⟩
 ·omega
 ·obtain rfl : a = some ⟨g, 0, none⟩ := by simp at hv; exact hv.1
  refine ⟨g, rfl, (Array.getElem?_eq_some_iff.1 hh).1, fun f hf => ?_⟩
  rw [h.cellAt (i * 5 + f) (by omega), flatG_get X i f hi hf]
end Go.Proofs.YtadinjaocnlglaaGreatDoor
