/-
  Plain: all volumes of a vault, in whatever order.
  Plain: volumes that lose parts, as data.
  The walk of vaultkeep's Ordered.
  The walk of vaultkeep.Packed.
  The walks of vaultkeep's amount, volumeOf, block, clash; a Plan.
  The walk of vaultkeep's planned.
  A Wreck in memory; the walks of vaultkeep's sound and wrecked.
  The walk of vaultkeep's wrecked.
  The walks of vaultkeep's sameInts, hit and there.
  A Stock's objects parted from the names of those that are lost.
  Plain: what is told of volumes that were overwritten, cut off or left out.
-/
import Derived.Test.YtadinjaocnlglaaGreatDoorZ43
import Derived.Test.YtadinjaocnlglaaGreatDoorZ38
import Derived.Test.YtadinjaocnlglaaGreatDoorZ05
import Derived.Test.YtadinjaocnlglaaGreatDoorZ37
import Derived.BigRegion
import Derived.BigQuiet
import Derived.Test.YtadinjaocnlglaaGreatDoorZ39
namespace Go.Proofs.YtadinjaocnlglaaGreatDoor
open Go.RowKit Go.Maps
set_option maxRecDepth 100000
set_option maxHeartbeats 1000000
theorem texL_mem {L : Nat → ByteArray} {n : Nat} {t : ByteArray} : t ∈ texL L n ↔ ∃ j, j < n ∧ L j = t := by
  unfold texL
  simp [List.mem_map]
theorem texL_nodup {L : Nat → ByteArray} {n : Nat} : (texL L n).Nodup ↔ ∀ j k, j < n → k < n → j ≠ k → L j ≠ L k := by
  unfold texL List.Nodup
  rw [List.pairwise_map]
  constructor
  · intro h j k hj hk hne
    rcases Nat.lt_or_gt_of_ne hne with h1 | h1
    · have := List.pairwise_iff_getElem.1 h j k (by simpa using hj) (by simpa using hk) h1
      simpa using this
    · have := List.pairwise_iff_getElem.1 h k j (by simpa using hk) (by simpa using hj) h1
      simpa using fun e => this (by simpa using e.symm)
  · intro h
    have h1 : (List.range n).Pairwise (fun i j => i < j) := List.pairwise_lt_range
    exact h1.imp_of_mem (fun {i j} hi hj hlt => h i j (List.mem_range.1 hi) (List.mem_range.1 hj) (by omega))
theorem perm_part {H L : Nat → ByteArray} {V : Nat} (hp : (texL H V).Perm (texL L V)) (hi : ∀ u v, u < V → v < V → u ≠ v → L u ≠ L v) : ∃ Nu : Nat → Nat, (∀ j, j < V → Nu j < V ∧ H j = L (Nu j)) ∧ (∀ j k, j < V → k < V → j ≠ k → Nu j ≠ Nu k) ∧ ∀ v, v < V → ∃ j, j < V ∧ Nu j = v := by
  have h1 : ∀ j, j < V → ∃ u, u < V ∧ L u = H j := fun j hj => texL_mem.1 (hp.mem_iff.1 (texL_mem.2 ⟨j, hj, rfl⟩))
  have hnd := texL_nodup.1 (hp.nodup_iff.2 (texL_nodup.2 hi))
  obtain ⟨Nu, hN⟩ : ∃ Nu : Nat → Nat, ∀ j, j < V → Nu j < V ∧ L (Nu j) = H j := ⟨fun j => if h : j < V then Classical.choose (h1 j h) else 0, fun j hj => by
    show (if h : j < V then Classical.choose (h1 j h) else 0) < V ∧ L (if h : j < V then Classical.choose (h1 j h) else 0) = H j
    rw [dif_pos hj]
    exact Classical.choose_spec (h1 j hj)⟩
  refine ⟨Nu, fun j hj => ⟨(hN j hj).1, (hN j hj).2.symm⟩, fun j k hj hk hne e => hnd j k hj hk hne (by rw [← (hN j hj).2, ← (hN k hk).2, e]), fun v hv => ?_⟩
  obtain ⟨j, hj, e⟩ := texL_mem.1 (hp.mem_iff.2 (texL_mem.2 ⟨v, hv, rfl⟩))
  refine ⟨j, hj, ?_⟩
  by_cases h : Nu j = v
  · exact h
  · exact absurd ((hN j hj).2.trans e) (hi _ _ (hN j hj).1 hv h)
theorem abF_all {rd : Nat → Bool} : ∀ n, (∀ i, i < n → rd i = true) → abF rd n = []
  | 0, _ => rfl
  | n + 1, h => by rw [abF, if_pos (h n (by omega)), abF_all n (fun i hi => h i (by omega))]
theorem badF_all {h : Nat → Bool} {o : Nat} : ∀ n, (∀ i, i < n → h i = true) → badF h o n = []
  | 0, _ => rfl
  | n + 1, hh => by rw [badF, if_pos (hh n (by omega)), badF_all n (fun i hi => hh i (by omega))]
theorem fsF_all {kt : Nat → Int} {T : TT} {bl : Nat → ByteArray} {c : Nat} : ∀ n, (∀ s, s < n → stF kt T bl s ≠ c) → fsF kt T bl c n = []
  | 0, _ => rfl
  | n + 1, h => by rw [fsF, if_neg (h n (by omega)), fsF_all n (fun i hi => h i (by omega))]
theorem baF_all {kt : Nat → Int} {T : TT} {bl : Nat → ByteArray} : ∀ n, (∀ s, s < n → stB kt T bl s = []) → baF kt T bl n = []
  | 0, _ => rfl
  | n + 1, h => by rw [baF, h n (by omega), baF_all n (fun i hi => h i (by omega))]; rfl
section
variable {kt : Nat → Int} {K M C V cnt : Nat} {es : List (ByteArray × Nat)} {s : ByteArray}
theorem VOk.rest (h : VOk K M C V cnt es s) {v : Nat} (hv : v < V) : (reE K M C V s v).size = ((v + 1) * cnt / V - v * cnt / V) * C ∧ ∀ i, i < (v + 1) * cnt / V - v * cnt / V → pc (reE K M C V s v) C i = bkT K M C s (v * cnt / V + i) := by
  have hnb : nbT K M C s = cnt := h.ct
  have hen : (v + 1) * cnt / V ≤ cnt := Nat.le_trans (Nat.div_le_div_right (Nat.mul_le_mul_right _ hv)) (by rw [Nat.mul_div_cancel_left _ h.lok.v1]; exact Nat.le_refl _)
  have hb : ∀ i, i < (v + 1) * cnt / V - v * cnt / V → (bkT K M C s (v * cnt / V + i)).size = C := fun i hi => h.bk (Nat.lt_of_lt_of_le (by omega : v * cnt / V + i < (v + 1) * cnt / V) hen)
  unfold reE
  rw [hnb]
  exact ⟨jT_eq _ C _ hb, fun i hi => pc_jT (F := fun i => bkT K M C s (v * cnt / V + i)) hb hi⟩
theorem VOk.inj (kt : Nat → Int) (h : VOk K M C V cnt es s) (R : Nat → ByteArray) : ∀ u v, u < V → v < V → u ≠ v → hdE kt K M C V es s u ++ R u ≠ hdE kt K M C V es s v ++ R v := fun u v hu hv hne e => by
  have e1 := (h.wrt kt hu (R u)).tld.num
  have e2 := (h.wrt kt hv (R v)).tld.num
  rw [e, e2] at e1
  exact hne e1.symm
/-- all blocks are there -/
theorem Part.all {L : Nat → ByteArray} {n : Nat} {Nu : Nat → Nat} (p : Part kt K M C V cnt es s L n Nu (fun j => reE K M C V s (Nu j))) (h : VOk K M C V cnt es s) (hs : ∀ v, v < V → ∃ j, j < n ∧ Nu j = v) {x : Nat} (hx : x < cnt) : blL L n x = bkT K M C s x := by
  obtain ⟨v, hv, h1, h2⟩ := in_range cnt V x V (by rw [Nat.mul_div_cancel_left _ h.lok.v1]; exact hx)
  obtain ⟨j, hj, e⟩ := hs v hv
  obtain ⟨r1, r2⟩ := h.rest hv
  have := p.bl h (j := j) (i := x - v * cnt / V) hj (by
    show _ < (reE K M C V s (Nu j)).size / C
    rw [e, r1, Nat.mul_div_cancel _ h.lok.c1]; omega)
  have this' : blL L n (Nu j * cnt / V + (x - v * cnt / V)) = pc (reE K M C V s (Nu j)) C (x - v * cnt / V) := this
  rw [e, r2 _ (by omega), show v * cnt / V + (x - v * cnt / V) = x by omega] at this'
  exact this'
/-- a vault of which all blocks are as they were written -/
theorem VOk.whole (h : VOk K M C V cnt es s) {T : TT} {v : Nat} {root lst : ByteArray} {l : List UInt8} (hT : Tld T K M C V v es root lst (lvE kt K M C s) l) {bl : Nat → ByteArray} (hb : ∀ x, x < cnt → bl x = bkT K M C s x) :
    ∀ st, st < nst (K * C) s.size → (∀ i, i < K + M → stH kt T bl st i = true) ∧ stF kt T bl st = 0 ∧ ∀ i, i < K + M → stM kt T bl st i = bkT K M C s (st * (K + M) + i) := fun st hst => by
  have hn : T.n = K + M := by unfold TT.n; rw [hT.K, hT.M]
  have hx : ∀ i, i < K + M → st * (K + M) + i < cnt := fun i hi => by
    have h1 : (st + 1) * (K + M) ≤ nst (K * C) s.size * (K + M) := Nat.mul_le_mul_right _ hst
    rw [h.ct, Nat.succ_mul] at h1
    omega
  have hH : ∀ i, i < K + M → stH kt T bl st i = true := fun i hi => by
    unfold stH
    rw [hn, hT.C, hT.lv, hb _ (hx i hi)]
    unfold goodB
    rw [lv_pc kt K M C s (by unfold nbT; rw [h.ct]; exact hx i hi)]
    exact decide_eq_true ⟨h.bk (hx i hi), rfl⟩
  refine ⟨hH, h.stripe hT hst (fun i hi _ => hb _ (hx i hi)) ?_⟩
  rw [cnt_same _ (fun _ => true) (K + M) hH, cnt_all]
  omega
/-- what Repair makes of it -/
theorem VOk.remade (h : VOk K M C V cnt es s) {T : TT} {v : Nat} {root lst : ByteArray} {l : List UInt8} (hT : Tld T K M C V v es root lst (lvE kt K M C s) l) {A : Nat → ByteArray} (hA : ∀ x, x < cnt → A x = bkT K M C s x) {u : Nat} (hu : u < V) : reV kt T A u = hdE kt K M C V es s u ++ reE K M C V s u := by
  have hc : T.L.cnt = nbT K M C s := by unfold LT.cnt nbT; rw [hT.K, hT.M, hT.C, hT.es, ← h.len]
  have hnb : nbT K M C s = cnt := h.ct
  rw [reV_congr (B := bkT K M C s) (fun x hx => hA x (by rw [← hnb, ← hc]; exact hx)) (by rw [hT.V]; exact h.lok.v1) (by rw [hT.V]; exact hu)]
  unfold reV
  have hl : T.ls = lsE K M C V es := by unfold TT.ls lsE; rw [hT.K, hT.M, hT.C, hT.V, hT.es]
  rw [hl, hc, hT.V]
  rfl
end
/-- all that is true of volumes in any order that were opened -/
structure Pkd (kt : Nat → Int) (F : Nat → Ob) (q K M C V : Nat) (H : Nat → ByteArray) (s : OS) (t0 : ByteArray) : Prop where
  un : s.un = []
  T : ∃ v l, Tld (tT t0) K M C V v (esF F q) (rtE kt K M C V (esF F q) (smF F q)) (lsE K M C V (esF F q)) (lvE kt K M C (smF F q)) l
  ns : (tT t0).L.ns = nst (K * C) (smF F q).size
  whole : wholeB kt (tT t0) s.un s.rd s.bl = true
  st : ∀ i, i < (tT t0).L.ns → stF kt (tT t0) s.bl i = 0
  obj : ∀ j, j < q → unO kt (tT t0) s.bl j = F j
  re : ∀ dn : Nat → Bool, (∀ i, i < (tT t0).L.ns → dn i = true) → ∀ v, v < V → reV kt (tT t0) (blD kt (tT t0) s.bl dn) v = voT kt K M C V (datOf F q) (nmF F q) v
theorem packed_plain {kt : Nat → Int} {F : Nat → Ob} {q K M C V : Nat} (hS : Srt q F) (hK1 : 1 ≤ K) (hK2 : K ≤ 5) (hM : M ≤ 3) (hC1 : 1 ≤ C) (hC2 : C ≤ 8) (hV1 : 1 ≤ V) (hV2 : V ≤ 5) (hq : q ≤ 5) {H : Nat → ByteArray} (hp : (texL H V).Perm (texL (voT kt K M C V (datOf F q) (nmF F q)) V)) {rt : ByteArray} (hrt : rt = ⟨#[]⟩ ∨ rt = rtT kt K M C V (datOf F q) (nmF F q)) :
    (∃ s t0, Opn kt rt H V s t0) ∧ ∀ s t0, Opn kt rt H V s t0 → Pkd kt F q K M C V H s t0 := by
  have h := srt_ok hS hK1 hK2 hM hC1 hC2 hV1 hV2 hq
  rw [rt_eq hS] at hrt
  have hL : ∀ v, voT kt K M C V (datOf F q) (nmF F q) v = hdE kt K M C V (esF F q) (smF F q) v ++ reE K M C V (smF F q) v := fun v => vo_eq hS kt K M C V v
  obtain ⟨Nu, n1, n2, n3⟩ := perm_part hp (fun u v hu hv hne => by rw [hL, hL]; exact h.inj kt (reE K M C V (smF F q)) u v hu hv hne)
  have p : Part kt K M C V (nbT K M C (smF F q)) (esF F q) (smF F q) H V Nu (fun j => reE K M C V (smF F q) (Nu j)) :=
    ⟨fun j hj => by rw [(n1 j hj).2]; exact hL _, fun j hj => (n1 j hj).1, fun j hj => Nat.le_of_eq (h.rest (n1 j hj).1).1, n2⟩
  have hG := p.good h hrt
  have hrun := good_run V hG
  have hsz : rt.size = 0 ∨ rt.size = 32 := by
    rcases hrt with e | e
    · left; rw [e]; rfl
    · right; rw [e]; exact ofT_size _ _
  refine ⟨⟨stO H V, H 0, hsz, hrun, by unfold stO; rw [if_neg (by omega)]⟩, ?_⟩
  rintro s t0 ⟨_, hr, hh⟩
  rw [hrun] at hr
  obtain rfl : stO H V = s := Except.ok.inj hr
  obtain rfl : H 0 = t0 := by unfold stO at hh; rw [if_neg (by omega)] at hh; exact Option.some.inj hh
  have hT := p.tld h (j := 0) (by omega)
  have hbl : ∀ x, x < nbT K M C (smF F q) → blL H V x = bkT K M C (smF F q) x := fun x hx => p.all h n3 hx
  have hns : (tT (H 0)).L.ns = nst (K * C) (smF F q).size := by
    have hT' : Tld (tT (H 0)) K M C V (Nu 0) (esF F q) _ _ _ _ := hT
    unfold LT.ns; rw [hT'.K, hT'.C, hT'.es, h.len]
  have hw := fun st hst => h.whole (kt := kt) (T := tT (H 0)) hT hbl st hst
  have hn : (tT (H 0)).n = K + M := by
    have hT' : Tld (tT (H 0)) K M C V (Nu 0) (esF F q) _ _ _ _ := hT
    unfold TT.n; rw [hT'.K, hT'.M]
  have hV : (tT (H 0)).L.V = V := hT.V
  have hK : (tT (H 0)).L.K = K := hT.K
  have hM' : (tT (H 0)).L.M = M := hT.M
  have hst0 : ∀ i, i < (tT (H 0)).L.ns → stF kt (tT (H 0)) (blL H V) i = 0 := fun i hi => (hw i (by rw [← hns]; exact hi)).2.1
  refine ⟨rfl, ⟨_, _, hT⟩, hns, ?_, hst0, fun j hj => ?_, fun dn hd v hv => ?_⟩
  · refine decide_eq_true ⟨rfl, ?_, ?_, ?_, ?_⟩
    · show (abF (rdL H V) (tT (H 0)).L.V).length = 0
      rw [abF_all _ (fun i hi => (rdL_iff H V i).2 ?_)]
      · rfl
      · obtain ⟨j, hj, e⟩ := n3 i (by rw [← hV]; exact hi)
        exact ⟨j, hj, by rw [← e]; exact (p.tld h hj).num⟩
    · show (baF kt (tT (H 0)) (blL H V) (tT (H 0)).L.ns).length = 0
      rw [baF_all _ (fun st hst => ?_)]
      · rfl
      · unfold stB
        rw [hn]
        exact badF_all _ (hw st (by rw [← hns]; exact hst)).1
    · show (fsF kt (tT (H 0)) (blL H V) 1 (tT (H 0)).L.ns).length = 0
      rw [fsF_all _ (fun st hst => by
        have : stF kt (tT (H 0)) (blL H V) st = 0 := hst0 st hst
        show stF kt (tT (H 0)) (blL H V) st ≠ 1
        omega)]
      rfl
    · show (fsF kt (tT (H 0)) (blL H V) 2 (tT (H 0)).L.ns).length = 0
      rw [fsF_all _ (fun st hst => by
        have : stF kt (tT (H 0)) (blL H V) st = 0 := hst0 st hst
        show stF kt (tT (H 0)) (blL H V) st ≠ 2
        omega)]
      rfl
  · refine un_one hj hT.es (fun x h1 h2 => ?_)
    have hlen : lenE ((esF F q).take j) + (F j).2.size ≤ (smF F q).size := by
      have e := take_len (esF F q) j (by rw [esF_len]; exact hj)
      rw [(esF_get F q j hj).2] at e
      rw [sm_size, ← e]
      exact lenE_take_le _ _
    have hx : x / (K * C) < nst (K * C) (smF F q).size := by
      rw [Nat.div_lt_iff_lt_mul h.z]
      exact Nat.lt_of_lt_of_le (Nat.lt_of_lt_of_le h2 hlen) (nst_le _ _ h.z)
    exact h.byte (T := tT (H 0)) hT hx (fun i hi => (hw _ hx).2.2 i (by omega))
  · rw [hL v]
    refine h.remade (T := tT (H 0)) hT (fun x hx => ?_) hv
    have hx' : x < (tT (H 0)).L.cnt := by rw [p.ct h (by omega)]; exact hx
    have hn0 : 0 < (tT (H 0)).n := by rw [hn]; exact h.n
    obtain ⟨e1, e2⟩ := blD_all (kt := kt) (bl := blL H V) hn0 hd hst0 hx'
    have e3 : blD kt (tT (H 0)) (blL H V) dn x = bkT K M C (smF F q) x := by
      rw [e1, (hw _ (by rw [← hns]; exact e2)).2.2 _ (by rw [← hn]; exact Nat.mod_lt _ hn0), hn]
      congr 1
      rw [Nat.mul_comm]; exact Nat.div_add_mod x _
    exact e3
end Go.Proofs.YtadinjaocnlglaaGreatDoor
namespace Go.Proofs.YtadinjaocnlglaaGreatDoor
open Go.RowKit Go.Maps
set_option maxRecDepth 100000
set_option maxHeartbeats 1000000
section
variable {K M C V nb ns : Nat} {B : Nat → ByteArray} {lost out : Nat → Bool} {cut : Nat → Nat} {R R' : Nat → ByteArray}
end
def updT (L : Nat → ByteArray) (u : Nat) (t : ByteArray) : Nat → ByteArray := fun j => if j = u then t else L j
end Go.Proofs.YtadinjaocnlglaaGreatDoor
namespace Go.Proofs.YtadinjaocnlglaaGreatDoor
open Go.RowKit
set_option maxRecDepth 100000
set_option maxHeartbeats 2000000
theorem Ints.below {w w' : World} {a : Option Addr} {n : Nat} (h : Ints w a n) (hb : Below w.heap.size w w') : Ints w' a n := fun i hi => by
  obtain ⟨b, off, x, h1, h2, h3, h4⟩ := h i hi
  exact ⟨b, off, x, h1, Nat.lt_of_lt_of_le h2 hb.size, (hb.cell (p := ⟨b, off + i, none⟩) h2).trans h3, h4⟩
end Go.Proofs.YtadinjaocnlglaaGreatDoor
namespace Go.Proofs.YtadinjaocnlglaaGreatDoor
open Go.RowKit
set_option maxRecDepth 100000
set_option maxHeartbeats 4000000
end Go.Proofs.YtadinjaocnlglaaGreatDoor
namespace Go.Proofs.YtadinjaocnlglaaGreatDoor
open Go.RowKit
set_option maxRecDepth 100000
set_option maxHeartbeats 4000000
end Go.Proofs.YtadinjaocnlglaaGreatDoor
namespace Go.Proofs.YtadinjaocnlglaaGreatDoor
open Go.RowKit
set_option maxRecDepth 100000
set_option maxHeartbeats 4000000
end Go.Proofs.YtadinjaocnlglaaGreatDoor
namespace Go.Proofs.YtadinjaocnlglaaGreatDoor
open Go.RowKit
set_option maxRecDepth 100000
set_option maxHeartbeats 4000000
section
variable {B wb gl go gc cc x gf cf gp cp K M C V ns nb : Nat} {pl : Nat → Nat} {lost out : Nat → Bool} {cut : Nat → Nat} {w w' : World}
end
end Go.Proofs.YtadinjaocnlglaaGreatDoor
namespace Go.Proofs.YtadinjaocnlglaaGreatDoor
open Go.RowKit
set_option maxRecDepth 100000
set_option maxHeartbeats 4000000
end Go.Proofs.YtadinjaocnlglaaGreatDoor
namespace Go.Proofs.YtadinjaocnlglaaGreatDoor
open Go.RowKit
set_option maxRecDepth 100000
set_option maxHeartbeats 4000000
end Go.Proofs.YtadinjaocnlglaaGreatDoor
namespace Go.Proofs.YtadinjaocnlglaaGreatDoor
open Go.RowKit
set_option maxRecDepth 100000
set_option maxHeartbeats 4000000
/-- does an object lie in stripes that are whole alone? -/
def finJ (kt : Nat → Int) (T : TT) (bl : Nat → ByteArray) (j : Nat) : Bool := (List.range (lnE T.L.es j)).all (fun i => decide (stF kt T bl ((lenE (T.L.es.take j) + i) / (T.L.K * T.L.C)) = 0))
theorem finJ_yes {kt : Nat → Int} {T : TT} {bl : Nat → ByteArray} {j : Nat} (h : ∀ x, lenE (T.L.es.take j) ≤ x → x < lenE (T.L.es.take j) + lnE T.L.es j → stF kt T bl (x / (T.L.K * T.L.C)) = 0) : finJ kt T bl j = true := by
  unfold finJ
  rw [List.all_eq_true]
  exact fun i hi => decide_eq_true (h _ (by omega) (by have := List.mem_range.1 hi; omega))
theorem finJ_no {kt : Nat → Int} {T : TT} {bl : Nat → ByteArray} {j : Nat} (h : ∃ x, lenE (T.L.es.take j) ≤ x ∧ x < lenE (T.L.es.take j) + lnE T.L.es j ∧ stF kt T bl (x / (T.L.K * T.L.C)) ≠ 0) : finJ kt T bl j = false := by
  obtain ⟨x, h1, h2, h3⟩ := h
  unfold finJ
  rw [List.all_eq_false]
  exact ⟨x - lenE (T.L.es.take j), List.mem_range.2 (by omega), by rw [show lenE (T.L.es.take j) + (x - lenE (T.L.es.take j)) = x by omega, decide_eq_false h3]; simp⟩
/-- the objects that come out, the names of the others -/
def outL (kt : Nat → Int) (T : TT) (bl : Nat → ByteArray) (n : Nat) : List Ob := ((List.range n).filter (fun j => finJ kt T bl j)).map (unO kt T bl)
def losL (kt : Nat → Int) (T : TT) (bl : Nat → ByteArray) (n : Nat) : List ByteArray := ((List.range n).filter (fun j => !finJ kt T bl j)).map (nmE T.L.es)
theorem outL_yes {kt : Nat → Int} {T : TT} {bl : Nat → ByteArray} {n : Nat} (h : finJ kt T bl n = true) : outL kt T bl (n + 1) = outL kt T bl n ++ [unO kt T bl n] ∧ losL kt T bl (n + 1) = losL kt T bl n := by
  unfold outL losL
  rw [List.range_succ, List.filter_append, List.filter_append]
  simp [h]
theorem outL_no {kt : Nat → Int} {T : TT} {bl : Nat → ByteArray} {n : Nat} (h : finJ kt T bl n = false) : outL kt T bl (n + 1) = outL kt T bl n ∧ losL kt T bl (n + 1) = losL kt T bl n ++ [nmE T.L.es n] := by
  unfold outL losL
  rw [List.range_succ, List.filter_append, List.filter_append]
  simp [h]
theorem objs_more (F : Nat → Ob) (n : Nat) (x : Ob) : objs (updF F n x) (n + 1) = objs F n ++ [x] := by
  unfold objs
  rw [List.range_succ, List.map_append]
  congr 1
  · apply List.map_congr_left
    intro i hi
    show (if i = n then x else F i) = F i
    rw [if_neg (by have := List.mem_range.1 hi; omega)]
  · simp [updF]
theorem VS.grow9 {kt : Nat → Int} {B k g p q f : Nat} {T : TT} {un : Value} {ul : List Nat} {rd : Nat → Bool} {bl : Nat → ByteArray} {dn : Nat → Bool} {zs : Nat → Nat} {bd : Nat → Value} {w w2 : World} {B0 n : Nat} {v : Value} {xs : List Value} (h : VS kt B k g p q f T un ul rd bl dn zs bd w) (hv : w.ownsRow B0 9 1 v n xs) (hq : q < B0) (hG : w.grownBy w2 v.ownBlock) : VS kt B k g p q f T un ul rd bl dn zs bd w2 where
  row := by rw [hG.block k (Array.getElem?_eq_some_iff.1 h.row).1 (fun e => by obtain ⟨cur, hcur⟩ := own_type hv k e.symm; exact row_ne h.row hcur (by decide) rfl)]; exact h.row
  hd := h.hd.kept (fun j cs t ht hj => by
    rw [hG.block j (Array.getElem?_eq_some_iff.1 hj).1 (fun e => by
      obtain ⟨cur, hcur⟩ := own_type hv j e.symm
      exact row_ne hj hcur (by rcases ht with e | e <;> simp [e]) rfl)]
    exact hj)
  unO := own_kept h.unO (fun j hj => by
    obtain ⟨cur, hcur⟩ := own_type h.unO j hj
    exact hG.block j (Array.getElem?_eq_some_iff.1 hcur).1 (fun e => by
      obtain ⟨cur', hcur'⟩ := own_type hv j e.symm
      exact row_ne hcur hcur' (by decide) rfl))
  rdR := (hG.block p h.rdR.lt (fun e => by obtain ⟨cur, hcur⟩ := own_type hv p e.symm; exact row_ne h.rdR hcur (by decide) rfl)).trans h.rdR
  blR := (hG.block q h.blR.lt (fun e => by have := own_ge hv q e.symm; omega)).trans h.blR
  fiR := (hG.block f h.fiR.lt (fun e => by obtain ⟨cur, hcur⟩ := own_type hv f e.symm; exact row_ne h.fiR hcur (by decide) rfl)).trans h.fiR
  fn := fun s hs hd => by
    obtain ⟨h1, h2⟩ := h.fn s hs hd
    refine ⟨?_, own_kept h2 (fun j hj => ?_)⟩
    · rw [hG.block _ (Array.getElem?_eq_some_iff.1 h1).1 (fun e => by obtain ⟨cur, hcur⟩ := own_type hv _ e.symm; exact row_ne h1 hcur (by decide) rfl)]; exact h1
    · obtain ⟨cur, hcur⟩ := own_type h2 j hj
      exact hG.block j (Array.getElem?_eq_some_iff.1 hcur).1 (fun e => by
        obtain ⟨cur', hcur'⟩ := own_type hv j e.symm
        exact row_ne hcur hcur' (by decide) rfl)
end Go.Proofs.YtadinjaocnlglaaGreatDoor
namespace Go.Proofs.YtadinjaocnlglaaGreatDoor
open Go.RowKit Go.Maps
set_option maxRecDepth 100000
set_option maxHeartbeats 1000000
section
variable {kt : Nat → Int} {K M C V nb : Nat} {es : List (ByteArray × Nat)} {s : ByteArray} {out : Nat → Bool} {cut : Nat → Nat} {R H : Nat → ByteArray} {m : Nat}
end
end Go.Proofs.YtadinjaocnlglaaGreatDoor
