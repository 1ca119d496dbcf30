/-
  Plain: a stripe of which enough blocks are good comes back; the stream.
  Plain: the vault that comes of sorted objects.
  Plain: all volumes of a vault, in whatever order.
  The walk of vaultkeep's Ordered.
  The walk of vaultkeep.Packed.
  The walks of vaultkeep's amount, volumeOf, block, clash; a Plan.
-/
import Derived.Test.YtadinjaocnlglaaGreatDoorZ40
import Derived.Test.YtadinjaocnlglaaGreatDoorZ38
import Derived.Sort.Walk0
import Derived.Test.YtadinjaocnlglaaGreatDoorZ37
import Derived.Test.YtadinjaocnlglaaGreatDoorZ04
import Derived.Test.YtadinjaocnlglaaGreatDoorZ36
namespace Go.Proofs.YtadinjaocnlglaaGreatDoor
open Go.RowKit
set_option maxRecDepth 100000
set_option maxHeartbeats 1000000
theorem zer_all : ∀ c, ∀ x ∈ Lib.repeatL [(0 : UInt8)] c, x = 0
  | 0, x, h => by simp [Lib.repeatL] at h
  | c + 1, x, h => by
    simp only [Lib.repeatL, List.mem_append, List.mem_cons, List.not_mem_nil, or_false] at h
    rcases h with h | h
    · first | exact h | exact zer_all c x h
    · first | exact h | exact zer_all c x h
theorem strm_get (z : Nat) (s : ByteArray) (x : Nat) : (strm z s).data.toList.getD x 0 = s.data.toList.getD x 0 := by
  unfold strm
  rw [app_list]
  by_cases h : x < s.data.toList.length
  · rw [List.getD_eq_getElem?_getD, List.getD_eq_getElem?_getD, List.getElem?_append_left h]
  · rw [List.getD_eq_getElem?_getD, List.getD_eq_getElem?_getD, List.getElem?_append_right (by omega), List.getElem?_eq_none (l := s.data.toList) (by omega)]
    show ((Lib.repeatL [(0 : UInt8)] _)[_]?).getD 0 = 0
    cases hg : (Lib.repeatL [(0 : UInt8)] (nst z s.size * z - s.size))[x - s.data.toList.length]? with
    | none => rfl
    | some y => exact zer_all _ y (List.mem_of_getElem? hg)
theorem ext_get (t : ByteArray) (a b i : Nat) (hi : i < b - a) : (t.extract a b).data.toList.getD i 0 = t.data.toList.getD (a + i) 0 := by
  rw [ext_list, List.getD_eq_getElem?_getD, List.getD_eq_getElem?_getD, List.getElem?_take, if_pos hi, List.getElem?_drop]
theorem get_list {t : ByteArray} {j : Nat} (h : j < t.size) : t[j] = t.data.toList.getD j 0 := by
  rw [List.getD_eq_getElem?_getD, List.getElem?_eq_getElem (by rw [dl]; exact h)]
  rfl
section
variable {kt : Nat → Int} {K M C V cnt : Nat} {es : List (ByteArray × Nat)} {s : ByteArray} {T : TT} {v : Nat} {root lst : ByteArray} {l : List UInt8} {bl : Nat → ByteArray} {st : Nat}
theorem da_join (h : VOk K M C V cnt es s) (hst : st < nst (K * C) s.size) : jT (daT K C s st) K = pc (strm (K * C) s) (K * C) st := by
  unfold daT dat
  exact jT_pc _ C K (pc_size _ (K * C) _ st (strm_size _ _ h.z) hst)
theorem tl_zero (h : VOk K M C V cnt es s) (hst : st < nst (K * C) s.size) {A : Nat → ByteArray} (hA : ∀ i, i < K → A i = daT K C s st i) : (tz (tlT A K C st s.size)).size = 0 := by
  rw [tz_nil]
  intro j hj
  unfold tlT at hj ⊢
  have e : jT A K = pc (strm (K * C) s) (K * C) st := (jT_congr hA).trans (da_join h hst)
  have hz : (jT A K).size = K * C := by rw [e]; exact pc_size _ (K * C) _ st (strm_size _ _ h.z) hst
  have hj2 := hj
  rw [ByteArray.size_extract, hz, Nat.min_self] at hj2
  have hlt : s.size - st * (K * C) < K * C := by
    rcases Nat.lt_or_ge (s.size - st * (K * C)) (K * C) with h1 | h1
    · exact h1
    · rw [Nat.min_eq_right h1] at hj2; omega
  rw [Nat.min_eq_left (by omega)] at hj2
  rw [get_list hj, Nat.min_eq_left (by omega), ext_get _ _ _ _ hj2, e]
  unfold pc
  rw [ext_get _ _ _ _ (by rw [Nat.succ_mul]; omega), strm_get, List.getD_eq_getElem?_getD, List.getElem?_eq_none (by rw [dl]; omega)]
  rfl
/-- a stripe comes back -/
theorem VOk.stripe (h : VOk K M C V cnt es s) (hT : Tld T K M C V v es root lst (lvE kt K M C s) l) (hst : st < nst (K * C) s.size) (hg : ∀ i, i < K + M → stH kt T bl st i = true → bl (st * (K + M) + i) = bkT K M C s (st * (K + M) + i)) (hK : K ≤ Go.Proofs.YtadinjaocnlglaaGreatDoor.cnt (stH kt T bl st) (K + M)) :
    stF kt T bl st = 0 ∧ ∀ i, i < K + M → stM kt T bl st i = bkT K M C s (st * (K + M) + i) := by
  have hn : T.n = K + M := by unfold TT.n; rw [hT.K, hT.M]
  have hkn : (knL (stH kt T bl st) K (K + M)).length = K := by rw [knL_cnt]; omega
  have hmd : ∀ i, i < K + M → mdT (stS T bl st) (stH kt T bl st) K M C i = bkT K M C s (st * (K + M) + i) := fun i hi => by
    have h1 := filled_all (daT K C s st) (stS T bl st) (stH kt T bl st) K M C h.lok.km (da_size h.z hst) (fun i hi hh => by
      rw [← bk_at hst hi, ← hg i hi hh]
      unfold stS; rw [hn]) hkn i hi
    rw [mdT_eq, ← bk_at hst hi] at h1
    exact Value.string.inj h1
  have hgood : ∀ i, i < K + M → goodB kt C (lvE kt K M C s) (st * (K + M) + i) (bkT K M C s (st * (K + M) + i)) = true := fun i hi => by
    have hx : st * (K + M) + i < cnt := by
      have h1 : (st + 1) * (K + M) ≤ nst (K * C) s.size * (K + M) := Nat.mul_le_mul_right _ hst
      rw [h.ct, Nat.succ_mul] at h1
      omega
    unfold goodB
    rw [lv_pc kt K M C s (by unfold nbT; rw [h.ct]; exact hx)]
    exact decide_eq_true ⟨h.bk hx, rfl⟩
  refine ⟨?_, fun i hi => by unfold stM; rw [hT.K, hT.M, hT.C]; exact hmd i hi⟩
  unfold stF fate
  rw [hT.K, hT.M, hT.C, hT.lv, hT.es, if_neg (by omega), if_neg]
  unfold frg
  rw [if_pos, ← h.len, tl_zero h hst (fun i hi => by rw [hmd i (by omega), bk_at hst (by omega)]; unfold allS; rw [if_pos hi])]
  · simp
  · intro i hi
    unfold okI
    rw [hmd i hi, hgood i hi]
    cases hh : stH kt T bl st i with
    | false => rfl
    | true =>
      have : bkT K M C s (st * (K + M) + i) = stS T bl st i := by rw [← hg i hi hh]; unfold stS; rw [hn]
      rw [decide_eq_true this]
      rfl
/-- its bytes -/
theorem VOk.byte (h : VOk K M C V cnt es s) (hT : Tld T K M C V v es root lst (lvE kt K M C s) l) {x : Nat} (hx : x / (K * C) < nst (K * C) s.size) (hM : ∀ i, i < K → stM kt T bl (x / (K * C)) i = bkT K M C s (x / (K * C) * (K + M) + i)) : byteS kt T bl x = s.data.toList.getD x 0 := by
  unfold byteS stD
  rw [hT.K, hT.C]
  have e : jT (stM kt T bl (x / (K * C))) K = pc (strm (K * C) s) (K * C) (x / (K * C)) := (jT_congr (fun i hi => by
    rw [hM i hi, bk_at hx (by omega)]; unfold allS; rw [if_pos hi])).trans (da_join h hx)
  rw [e]
  have hm := Nat.mod_lt x h.z
  unfold pc
  rw [ext_get _ _ _ _ (by rw [Nat.succ_mul]; omega), strm_get, Nat.mul_comm, Nat.div_add_mod]
end
theorem list_cut (l : List UInt8) (a n : Nat) (h : a + n ≤ l.length) : (List.range n).map (fun i => l.getD (a + i) 0) = (l.drop a).take n := by
  apply List.ext_getElem?
  intro i
  by_cases hi : i < n
  · rw [List.getElem?_map, List.getElem?_range hi, List.getElem?_take, if_pos hi, List.getElem?_drop]
    show some (l.getD (a + i) 0) = l[a + i]?
    rw [List.getD_eq_getElem?_getD, List.getElem?_eq_getElem (by omega)]
    rfl
  · rw [List.getElem?_eq_none (by simp; omega), List.getElem?_take, if_neg hi]
end Go.Proofs.YtadinjaocnlglaaGreatDoor
namespace Go.Proofs.YtadinjaocnlglaaGreatDoor
open Go.RowKit Go.Maps
set_option maxRecDepth 100000
set_option maxHeartbeats 1000000
def esF (F : Nat → Ob) (q : Nat) : List (ByteArray × Nat) := (List.range q).map fun j => ((F j).1, (F j).2.size)
/-- the stream -/
def smF (F : Nat → Ob) (q : Nat) : ByteArray := jT (fun j => (F j).2) q
theorem bl_le {a b : ByteArray} (h : tlt a b) : leB a.data.toList b.data.toList = true := by
  unfold tlt at h
  rw [bytesLess_eq, ByteArray.toList_eq, ByteArray.toList_eq] at h
  exact decide_eq_true (List.le_of_lt (of_decide_eq_true h))
theorem nmF_eq {F : Nat → Ob} {q : Nat} (h : Srt q F) : nmF F q = nms (objs F q) := by
  unfold nmF
  apply List.mergeSort_of_pairwise
  unfold nms objs
  rw [List.map_map, List.pairwise_map]
  have h1 : (List.range q).Pairwise (fun i j => i < j) := List.pairwise_lt_range
  refine h1.imp_of_mem (fun {i j} hi hj hlt => ?_)
  exact bl_le (h.lt i j hlt (List.mem_range.1 hj))
theorem esF_len (F : Nat → Ob) (q : Nat) : (esF F q).length = q := by simp [esF]
theorem esF_take (F : Nat → Ob) (q j : Nat) (h : j ≤ q) : (esF F q).take j = esF F j := by
  unfold esF
  rw [← List.map_take, List.take_range, Nat.min_eq_left h]
theorem esF_sum (F : Nat → Ob) : ∀ q, lenE (esF F q) = (jL (fun j => (F j).2) q).length
  | 0 => rfl
  | q + 1 => by
    have e1 : esF F (q + 1) = esF F q ++ [((F q).1, (F q).2.size)] := by simp [esF, List.range_succ]
    have e2 : jL (fun j => (F j).2) (q + 1) = jL (fun j => (F j).2) q ++ (F q).2.data.toList := by simp [jL, List.range_succ]
    rw [e1, e2, lenE_app, esF_sum F q, List.length_append, dl]
    simp [lenE]
theorem sm_size (F : Nat → Ob) (q : Nat) : (smF F q).size = lenE (esF F q) := by
  rw [esF_sum, ← dl]
  rfl
theorem esF_get (F : Nat → Ob) (q j : Nat) (h : j < q) : nmE (esF F q) j = (F j).1 ∧ lnE (esF F q) j = (F j).2.size := by
  unfold nmE lnE esF
  simp [h]
theorem lst2_congr (h : List UInt8) (A B : Nat → ByteArray) (P Q : Nat → Nat) : ∀ n, (∀ j, j < n → A j = B j ∧ P j = Q j) → lst2 h A P n = lst2 h B Q n
  | 0, _ => rfl
  | n + 1, hh => by rw [lst2, lst2, lst2_congr h A B P Q n (fun j hj => hh j (by omega)), (hh n (by omega)).1, (hh n (by omega)).2]
section
variable {F : Nat → Ob} {q : Nat}
theorem ls_eq (h : Srt q F) (K M C V : Nat) : lsT K M C V (datOf F q) (nmF F q) = lsE K M C V (esF F q) := by
  have hl : (nmF F q).length = q := by rw [nmF_eq h]; simp [nms, objs]
  unfold lsT lsE lstT
  rw [hl, esF_len, lst2_congr _ _ (nmE (esF F q)) _ (lnE (esF F q)) q (fun j hj => ?_)]
  obtain ⟨e1, e2⟩ := esF_get F q j hj
  rw [e1, e2]
  have eg : (nmF F q)[j]? = some (F j).1.data.toList := by rw [nmF_eq h]; simp [nms, objs, hj]
  constructor
  · unfold nmT
    rw [List.getD_eq_getElem?_getD, eg]
    apply ba_ext; rfl
  · unfold lnT
    rw [eg]
    show (datOf F q (F j).1.data.toList).length = _
    rw [datOf_at h j hj, dl]
theorem dt_eq (h : Srt q F) : dtT (datOf F q) (nmF F q) = smF F q := by
  apply ba_ext
  show datL (datOf F q) (nmF F q) (nmF F q).length = jL (fun j => (F j).2) q
  unfold datL jL
  rw [List.take_length, nmF_eq h, flat_names h, List.flatMap_def]
  congr 1
  unfold objs
  rw [List.map_map]
  rfl
theorem rt_eq (h : Srt q F) (kt : Nat → Int) (K M C V : Nat) : rtT kt K M C V (datOf F q) (nmF F q) = rtE kt K M C V (esF F q) (smF F q) := by
  unfold rtT rtE
  rw [ls_eq h, dt_eq h]
  rfl
theorem vo_eq (h : Srt q F) (kt : Nat → Int) (K M C V v : Nat) : voT kt K M C V (datOf F q) (nmF F q) v = hdE kt K M C V (esF F q) (smF F q) v ++ reE K M C V (smF F q) v := by
  unfold voT
  rw [ls_eq h, dt_eq h, rt_eq h]
  rfl
end
theorem ord_of (e : Nat → ByteArray × Nat) : ∀ n k b, (∀ j, j < n → 1 ≤ (e (k + j)).1.size ∧ (e (k + j)).1.size ≤ 255) → (0 < n → leT (e k).1 b = false) → (∀ j, j + 1 < n → leT (e (k + j + 1)).1 (e (k + j)).1 = false) → EOrd b ((List.range n).map fun j => e (k + j))
  | 0, k, b, _, _, _ => trivial
  | n + 1, k, b, h1, h2, h3 => by
    rw [List.range_succ_eq_map, List.map_cons, List.map_map]
    have e1 : ((fun j => e (k + j)) ∘ Nat.succ) = fun j => e (k + 1 + j) := by
      funext j
      show e (k + (j + 1)) = e (k + 1 + j)
      rw [Nat.add_assoc, Nat.add_comm 1 j]
    rw [e1]
    refine ⟨(h1 0 (by omega)).1, (h1 0 (by omega)).2, h2 (by omega), ?_⟩
    refine ord_of e n (k + 1) _ (fun j hj => ?_) (fun h0 => ?_) (fun j hj => ?_)
    · have := h1 (j + 1) (by omega)
      rw [show k + (j + 1) = k + 1 + j by omega] at this
      exact this
    · exact h3 0 (by omega)
    · have := h3 (j + 1) (by omega)
      rw [show k + (j + 1) = k + 1 + j by omega] at this
      exact this
theorem le_of_tlt {a b : ByteArray} (h : tlt a b) : leT b a = false := by
  unfold tlt at h
  unfold leT
  cases h1 : Op.bytesLess b.toList a.toList with
  | true =>
    have := bl_trans _ _ _ h h1
    rw [bl_irr] at this; cases this
  | false =>
    cases h2 : b.toList == a.toList with
    | true =>
      have : b.toList = a.toList := by simpa using h2
      rw [this, bl_irr] at h; cases h
    | false => rfl
theorem le_of_nil {a : ByteArray} (h : 1 ≤ a.size) : leT a ⟨#[]⟩ = false := by
  unfold leT
  have e : (⟨#[]⟩ : ByteArray).toList = [] := by rw [ByteArray.toList_eq]
  rw [e]
  have h2 : a.toList ≠ [] := fun e => by
    rw [ByteArray.toList_eq] at e
    have := dl a
    rw [e] at this
    simp at this
    omega
  cases h3 : a.toList with
  | nil => exact absurd h3 h2
  | cons x r => rfl
theorem esF_ord {F : Nat → Ob} {q : Nat} (h : Srt q F) : EOrd ⟨#[]⟩ (esF F q) := by
  have := ord_of (fun j => ((F j).1, (F j).2.size)) q 0 ⟨#[]⟩ (fun j hj => by
    have := h.sz (0 + j) (by omega)
    exact ⟨this.1, Nat.le_trans this.2.1 (by omega)⟩) (fun h0 => le_of_nil (h.sz 0 h0).1) (fun j hj => le_of_tlt (h.lt (0 + j) (0 + j + 1) (by omega) (by omega)))
  simp only [Nat.zero_add] at this
  exact this
theorem sm_le {F : Nat → Ob} {q : Nat} (h : Srt q F) : (smF F q).size ≤ q * 12 := jT_size _ 12 q (fun i hi => (h.sz i hi).2.2)
theorem srt_ok {F : Nat → Ob} {q K M C V : Nat} (h : Srt q F) (hK1 : 1 ≤ K) (hK2 : K ≤ 5) (hM : M ≤ 3) (hC1 : 1 ≤ C) (hC2 : C ≤ 8) (hV1 : 1 ≤ V) (hV2 : V ≤ 5) (hq : q ≤ 5) : VOk K M C V (nbT K M C (smF F q)) (esF F q) (smF F q) where
  lok := ⟨hK1, by omega, hC1, by omega, hV1, by omega, by rw [esF_len]; omega, by have := sm_le h; rw [← sm_size]; omega, esF_ord h⟩
  len := sm_size F q
  ct := rfl
  c512 := by
    have h1 := nst_len (K * C) (smF F q).size (Nat.mul_pos hK1 hC1)
    have h2 := sm_le h
    show nst (K * C) (smF F q).size * (K + M) ≤ 512
    exact Nat.le_trans (Nat.mul_le_mul (Nat.le_trans h1 (Nat.le_trans h2 (Nat.mul_le_mul_right 12 hq))) (show K + M ≤ 8 by omega)) (by omega)
/-- the j-th object out of the stream -/
theorem un_one {F : Nat → Ob} {q : Nat} {kt : Nat → Int} {T : TT} {bl : Nat → ByteArray} {j : Nat} (hj : j < q) (hes : T.L.es = esF F q) (hb : ∀ x, lenE ((esF F q).take j) ≤ x → x < lenE ((esF F q).take j) + (F j).2.size → byteS kt T bl x = (smF F q).data.toList.getD x 0) : unO kt T bl j = F j := by
  obtain ⟨e1, e2⟩ := esF_get F q j hj
  unfold unO
  rw [hes, e1, e2]
  have hs : strS kt T bl (lenE ((esF F q).take j)) (lenE ((esF F q).take j) + (F j).2.size) = (F j).2.data.toList := by
    unfold strS
    rw [Nat.add_sub_cancel_left]
    have e3 : (List.range (F j).2.size).map (fun i => byteS kt T bl (lenE ((esF F q).take j) + i)) = (List.range (F j).2.size).map (fun i => (smF F q).data.toList.getD (lenE ((esF F q).take j) + i) 0) := by
      apply List.map_congr_left
      intro i hi
      exact hb _ (by omega) (by have := List.mem_range.1 hi; omega)
    obtain ⟨r, hr⟩ := jL_split (fun j => (F j).2) q j hj
    have e4 : (smF F q).data.toList = jL (fun j => (F j).2) j ++ (F j).2.data.toList ++ r := hr
    have e5 : lenE ((esF F q).take j) = (jL (fun j => (F j).2) j).length := by rw [esF_take F q j (by omega), esF_sum]
    rw [e3, list_cut _ _ _ (by rw [e4, e5]; simp only [List.length_append, dl]; omega), e4, e5, List.append_assoc, List.drop_left, ← dl, List.take_left]
  rw [hs]
end Go.Proofs.YtadinjaocnlglaaGreatDoor
namespace Go.Proofs.YtadinjaocnlglaaGreatDoor
open Go.RowKit Go.Maps
set_option maxRecDepth 100000
set_option maxHeartbeats 1000000
theorem texL_mem {L : Nat → ByteArray} {n : Nat} {t : ByteArray} : t ∈ texL L n ↔ ∃ j, j < n ∧ L j = t := by
  unfold texL
  simp [List.mem_map]
theorem texL_nodup {L : Nat → ByteArray} {n : Nat} : (texL L n).Nodup ↔ ∀ j k, j < n → k < n → j ≠ k → L j ≠ L k := by
  unfold texL List.Nodup
  rw [List.pairwise_map]
  constructor
  · intro h j k hj hk hne
    rcases Nat.lt_or_gt_of_ne hne with h1 | h1
    · have := List.pairwise_iff_getElem.1 h j k (by simpa using hj) (by simpa using hk) h1
      simpa using this
    · have := List.pairwise_iff_getElem.1 h k j (by simpa using hk) (by simpa using hj) h1
      simpa using fun e => this (by simpa using e.symm)
  · intro h
    have h1 : (List.range n).Pairwise (fun i j => i < j) := List.pairwise_lt_range
    exact h1.imp_of_mem (fun {i j} hi hj hlt => h i j (List.mem_range.1 hi) (List.mem_range.1 hj) (by omega))
theorem perm_part {H L : Nat → ByteArray} {V : Nat} (hp : (texL H V).Perm (texL L V)) (hi : ∀ u v, u < V → v < V → u ≠ v → L u ≠ L v) : ∃ Nu : Nat → Nat, (∀ j, j < V → Nu j < V ∧ H j = L (Nu j)) ∧ (∀ j k, j < V → k < V → j ≠ k → Nu j ≠ Nu k) ∧ ∀ v, v < V → ∃ j, j < V ∧ Nu j = v := by
  have h1 : ∀ j, j < V → ∃ u, u < V ∧ L u = H j := fun j hj => texL_mem.1 (hp.mem_iff.1 (texL_mem.2 ⟨j, hj, rfl⟩))
  have hnd := texL_nodup.1 (hp.nodup_iff.2 (texL_nodup.2 hi))
  obtain ⟨Nu, hN⟩ : ∃ Nu : Nat → Nat, ∀ j, j < V → Nu j < V ∧ L (Nu j) = H j := ⟨fun j => if h : j < V then Classical.choose (h1 j h) else 0, fun j hj => by
    show (if h : j < V then Classical.choose (h1 j h) else 0) < V ∧ L (if h : j < V then Classical.choose (h1 j h) else 0) = H j
    rw [dif_pos hj]
    exact Classical.choose_spec (h1 j hj)⟩
  refine ⟨Nu, fun j hj => ⟨(hN j hj).1, (hN j hj).2.symm⟩, fun j k hj hk hne e => hnd j k hj hk hne (by rw [← (hN j hj).2, ← (hN k hk).2, e]), fun v hv => ?_⟩
  obtain ⟨j, hj, e⟩ := texL_mem.1 (hp.mem_iff.2 (texL_mem.2 ⟨v, hv, rfl⟩))
  refine ⟨j, hj, ?_⟩
  by_cases h : Nu j = v
  · exact h
  · exact absurd ((hN j hj).2.trans e) (hi _ _ (hN j hj).1 hv h)
theorem fsF_all {kt : Nat → Int} {T : TT} {bl : Nat → ByteArray} {c : Nat} : ∀ n, (∀ s, s < n → stF kt T bl s ≠ c) → fsF kt T bl c n = []
  | 0, _ => rfl
  | n + 1, h => by rw [fsF, if_neg (h n (by omega)), fsF_all n (fun i hi => h i (by omega))]
section
variable {kt : Nat → Int} {K M C V cnt : Nat} {es : List (ByteArray × Nat)} {s : ByteArray}
theorem VOk.rest (h : VOk K M C V cnt es s) {v : Nat} (hv : v < V) : (reE K M C V s v).size = ((v + 1) * cnt / V - v * cnt / V) * C ∧ ∀ i, i < (v + 1) * cnt / V - v * cnt / V → pc (reE K M C V s v) C i = bkT K M C s (v * cnt / V + i) := by
  have hnb : nbT K M C s = cnt := h.ct
  have hen : (v + 1) * cnt / V ≤ cnt := Nat.le_trans (Nat.div_le_div_right (Nat.mul_le_mul_right _ hv)) (by rw [Nat.mul_div_cancel_left _ h.lok.v1]; exact Nat.le_refl _)
  have hb : ∀ i, i < (v + 1) * cnt / V - v * cnt / V → (bkT K M C s (v * cnt / V + i)).size = C := fun i hi => h.bk (Nat.lt_of_lt_of_le (by omega : v * cnt / V + i < (v + 1) * cnt / V) hen)
  unfold reE
  rw [hnb]
  exact ⟨jT_eq _ C _ hb, fun i hi => pc_jT (F := fun i => bkT K M C s (v * cnt / V + i)) hb hi⟩
theorem VOk.inj (kt : Nat → Int) (h : VOk K M C V cnt es s) (R : Nat → ByteArray) : ∀ u v, u < V → v < V → u ≠ v → hdE kt K M C V es s u ++ R u ≠ hdE kt K M C V es s v ++ R v := fun u v hu hv hne e => by
  have e1 := (h.wrt kt hu (R u)).tld.num
  have e2 := (h.wrt kt hv (R v)).tld.num
  rw [e, e2] at e1
  exact hne e1.symm
/-- all blocks are there -/
theorem Part.all {L : Nat → ByteArray} {n : Nat} {Nu : Nat → Nat} (p : Part kt K M C V cnt es s L n Nu (fun j => reE K M C V s (Nu j))) (h : VOk K M C V cnt es s) (hs : ∀ v, v < V → ∃ j, j < n ∧ Nu j = v) {x : Nat} (hx : x < cnt) : blL L n x = bkT K M C s x := by
  obtain ⟨v, hv, h1, h2⟩ := in_range cnt V x V (by rw [Nat.mul_div_cancel_left _ h.lok.v1]; exact hx)
  obtain ⟨j, hj, e⟩ := hs v hv
  obtain ⟨r1, r2⟩ := h.rest hv
  have := p.bl h (j := j) (i := x - v * cnt / V) hj (by
    show _ < (reE K M C V s (Nu j)).size / C
    rw [e, r1, Nat.mul_div_cancel _ h.lok.c1]; omega)
  have this' : blL L n (Nu j * cnt / V + (x - v * cnt / V)) = pc (reE K M C V s (Nu j)) C (x - v * cnt / V) := this
  rw [e, r2 _ (by omega), show v * cnt / V + (x - v * cnt / V) = x by omega] at this'
  exact this'
/-- a vault of which all blocks are as they were written -/
theorem VOk.whole (h : VOk K M C V cnt es s) {T : TT} {v : Nat} {root lst : ByteArray} {l : List UInt8} (hT : Tld T K M C V v es root lst (lvE kt K M C s) l) {bl : Nat → ByteArray} (hb : ∀ x, x < cnt → bl x = bkT K M C s x) :
    ∀ st, st < nst (K * C) s.size → (∀ i, i < K + M → stH kt T bl st i = true) ∧ stF kt T bl st = 0 ∧ ∀ i, i < K + M → stM kt T bl st i = bkT K M C s (st * (K + M) + i) := fun st hst => by
  have hn : T.n = K + M := by unfold TT.n; rw [hT.K, hT.M]
  have hx : ∀ i, i < K + M → st * (K + M) + i < cnt := fun i hi => by
    have h1 : (st + 1) * (K + M) ≤ nst (K * C) s.size * (K + M) := Nat.mul_le_mul_right _ hst
    rw [h.ct, Nat.succ_mul] at h1
    omega
  have hH : ∀ i, i < K + M → stH kt T bl st i = true := fun i hi => by
    unfold stH
    rw [hn, hT.C, hT.lv, hb _ (hx i hi)]
    unfold goodB
    rw [lv_pc kt K M C s (by unfold nbT; rw [h.ct]; exact hx i hi)]
    exact decide_eq_true ⟨h.bk (hx i hi), rfl⟩
  refine ⟨hH, h.stripe hT hst (fun i hi _ => hb _ (hx i hi)) ?_⟩
  rw [cnt_same _ (fun _ => true) (K + M) hH, cnt_all]
  omega
end
end Go.Proofs.YtadinjaocnlglaaGreatDoor
namespace Go.Proofs.YtadinjaocnlglaaGreatDoor
open Go.RowKit
set_option maxRecDepth 100000
set_option maxHeartbeats 2000000
theorem Ints.below {w w' : World} {a : Option Addr} {n : Nat} (h : Ints w a n) (hb : Below w.heap.size w w') : Ints w' a n := fun i hi => by
  obtain ⟨b, off, x, h1, h2, h3, h4⟩ := h i hi
  exact ⟨b, off, x, h1, Nat.lt_of_lt_of_le h2 hb.size, (hb.cell (p := ⟨b, off + i, none⟩) h2).trans h3, h4⟩
end Go.Proofs.YtadinjaocnlglaaGreatDoor
namespace Go.Proofs.YtadinjaocnlglaaGreatDoor
open Go.RowKit
set_option maxRecDepth 100000
set_option maxHeartbeats 4000000
def Q3 (q f v j : Nat) : Prop := j = q ∨ j = f ∨ j = v
theorem own_hi {w w' : World} {base e size n q f v : Nat} {val : Value} {xs : List Value} (h : w.ownsRow base e size val n xs) (hF : Fr (Q3 q f v) w w') (hq : q < base) (hf : f < base) (hv : v < base) : w'.ownsRow base e size val n xs :=
  own_kept h (fun r hr => hF.old r (own_lt h r hr) (fun e => by
    have := own_ge h r hr
    rcases e with e | e | e <;> omega))
theorem row_hi {w w' : World} {g n e q f v : Nat} {F : Nat → Value} (h : Rw w g n e F) (hF : Fr (Q3 q f v) w w') (hq : q < g) (hf : f < g) (hv : v < g) : Rw w' g n e F := by
  have hl := h.lt
  unfold Rw at h ⊢
  rw [hF.old g hl (fun e => by rcases e with e | e | e <;> omega)]
  exact h
theorem obj_hi {w w' : World} {g q f v : Nat} {o : Obj} (h : w.heap[g]? = some o) (hF : Fr (Q3 q f v) w w') (hq : q < g) (hf : f < g) (hv : v < g) : w'.heap[g]? = some o := by
  rw [hF.old g (Array.getElem?_eq_some_iff.1 h).1 (fun e => by rcases e with e | e | e <;> omega)]
  exact h
theorem VK.below {kt : Nat → Int} {B v k g p q f : Nat} {T : TT} {un : Value} {ul : List Nat} {rd : Nat → Bool} {bl : Nat → ByteArray} {w w' : World} (h : VK kt B v k g p q f T un ul rd bl w) (hb : Below w.heap.size w w') : VK kt B v k g p q f T un ul rd bl w' := by
  obtain ⟨hv, dn, zs, bd, hs⟩ := h
  refine ⟨?_, dn, zs, bd, hs.below hb⟩
  have hl : v < w.heap.size := (Array.getElem?_eq_some_iff.1 hv).1
  unfold VL at hv ⊢
  rw [hb.block v hl]; exact hv
theorem VK.lt {kt : Nat → Int} {B v k g p q f : Nat} {T : TT} {un : Value} {ul : List Nat} {rd : Nat → Bool} {bl : Nat → ByteArray} {w : World} (h : VK kt B v k g p q f T un ul rd bl w) : q < w.heap.size ∧ f < w.heap.size ∧ v < w.heap.size := by
  obtain ⟨hv, dn, zs, bd, hs⟩ := h
  exact ⟨hs.blR.lt, hs.fiR.lt, (Array.getElem?_eq_some_iff.1 hv).1⟩
end Go.Proofs.YtadinjaocnlglaaGreatDoor
namespace Go.Proofs.YtadinjaocnlglaaGreatDoor
open Go.RowKit
set_option maxRecDepth 100000
set_option maxHeartbeats 4000000
/-- a Plan -/
structure Pln (x gf cf gp cp K M C V ns nb : Nat) (pl : Nat → Nat) (w : World) : Prop where
  row : w.heap[x]? = some (.cells #[.int .i64 K, .int .i64 M, .int .i64 C, .int .i64 V, .int .i64 ns, .int .i64 nb, .slice (some ⟨gf, 0, none⟩) (V + 1) cf, .slice (some ⟨gp, 0, none⟩) V cp] 84 (0, 0))
  fst : ∀ v, v ≤ V → w.cell? ⟨gf, v, none⟩ = some (.int .i64 ((v * nb / V : Nat) : Int))
  plc : ∀ v, v < V → w.cell? ⟨gp, v, none⟩ = some (.int .i64 (pl v : Nat))
theorem Pln.kept {x gf cf gp cp K M C V ns nb : Nat} {pl : Nat → Nat} {w w' : World} (h : Pln x gf cf gp cp K M C V ns nb pl w) (hk : ∀ j, j = x ∨ j = gf ∨ j = gp → w'.heap[j]? = w.heap[j]?) : Pln x gf cf gp cp K M C V ns nb pl w' where
  row := (hk x (.inl rfl)).trans h.row
  fst := fun v hv => (World.cell?_of_block (a := ⟨gf, v, none⟩) (hk gf (.inr (.inl rfl)))).trans (h.fst v hv)
  plc := fun v hv => (World.cell?_of_block (a := ⟨gp, v, none⟩) (hk gp (.inr (.inr rfl)))).trans (h.plc v hv)
theorem Pln.lt {x gf cf gp cp K M C V ns nb : Nat} {pl : Nat → Nat} {w : World} (h : Pln x gf cf gp cp K M C V ns nb pl w) (hV : 1 ≤ V) : x < w.heap.size ∧ gf < w.heap.size ∧ gp < w.heap.size := ⟨(Array.getElem?_eq_some_iff.1 h.row).1, block_lt_of_cell (h.fst 0 (by omega)), block_lt_of_cell (h.plc 0 (by omega))⟩
theorem Pln.below {x gf cf gp cp K M C V ns nb : Nat} {pl : Nat → Nat} {w w' : World} (h : Pln x gf cf gp cp K M C V ns nb pl w) {B : Nat} (hB : x < B ∧ gf < B ∧ gp < B) (hb : Below B w w') : Pln x gf cf gp cp K M C V ns nb pl w' :=
  h.kept (fun j hj => hb.block j (by rcases hj with e | e | e <;> omega))
theorem amount_any (F : Nat → Ob) (q lc : Nat) (la : Option Addr) (w : World) (hq : q ≤ 1000000) (hs : ∀ j, j < q → (F j).2.size ≤ 1000000) (hL : ∀ i, i < q → ∃ g, la = some ⟨g, 0, none⟩ ∧ w.cell? ⟨g, i * 2, none⟩ = some (.string (F i).1) ∧ w.cell? ⟨g, i * 2 + 1, none⟩ = some (.string (F i).2)) :
    Calls Tryz.prog 75 #[.slice la q lc] w fun e w' => e = .returned (.int .i64 ((smF F q).size : Nat)) ∧ w' = w := by
  have hsz : ∀ i, i ≤ q → (smF F i).size ≤ i * 1000000 := fun i hi => jT_size _ 1000000 i (fun j hj => hs j (by omega))
  have hst : ∀ i, (smF F (i + 1)).size = (smF F i).size + (F i).2.size := fun i => by
    rw [sm_size, sm_size, esF_sum, esF_sum, ← dl (F i).2, ← List.length_append]
    congr 1
    simp [jL, List.range_succ]
  have HL : Hid _ := hL
  have HZ : Hid _ := hsz
  have HT : Hid _ := hst
  have HS : Hid _ := hs
  clear hL hsz hst hs
  go_enter Tryz.func75, Tryz.ntmps75
  go_wp2_with fail
  go_loopw [4, 3] (fun iv nv wr => ∃ i : Nat, i ≤ q ∧ iv = .int .i64 i ∧ nv = .int .i64 ((smF F i).size : Nat) ∧ wr = w) (fun iv _ _ => q - (intOf iv).toNat)
  case atStart => exact ⟨0, by omega, rfl, rfl, rfl⟩
  case round =>
    obtain ⟨i, hi, rfl, rfl, hw⟩ := hrel
    subst hw
    have z1 := HZ.out i hi
    by_cases hlt : i < q
    · have hin : (i : Int) < (q : Int) := by omega
      obtain ⟨g, ha, x0, x1⟩ := HL.out i hlt
      subst ha
      have z2 := HS.out i hlt
      obtain ⟨A, hA⟩ : ∃ A, (smF F i).size = A := ⟨_, rfl⟩
      have hA1 : A ≤ 1000000000000 := by rw [← hA]; exact Nat.le_trans z1 (by omega)
      rw [hA]
      go_wp2_with fail
      go_roundw
      case rel => exact ⟨i + 1, by omega, by go_num, by rw [HT.out i, hA]; go_num, by first | rfl | trivial⟩
      case measure => simp [intOf]; omega
    · have hin : ¬ (i : Int) < (q : Int) := by omega
      obtain rfl : i = q := by omega
      go_wp2_with fail
      go_ret
      exact ⟨rfl, rfl⟩
theorem rng_le {nb V a b : Nat} (h : a ≤ b) : a * nb / V ≤ b * nb / V := Nat.div_le_div_right (Nat.mul_le_mul_right _ h)
theorem rng_top {nb V v : Nat} (hV : 1 ≤ V) (hv : v ≤ V) : v * nb / V ≤ nb := Nat.le_trans (rng_le hv) (by rw [Nat.mul_div_cancel_left _ hV]; exact Nat.le_refl _)
theorem volumeOf_any (x gf cf gp cp K M C V ns nb n v : Nat) (pl : Nat → Nat) (w : World) (h : Pln x gf cf gp cp K M C V ns nb pl w) (hV : V ≤ 1000) (hv : v < V) (h1 : v * nb / V ≤ n) (h2 : n < (v + 1) * nb / V) :
    Calls Tryz.prog 77 #[.pointer (some ⟨x, 0, none⟩), .int .i64 n] w fun e w' => e = .returned (.int .i64 v) ∧ w' = w := by
  have c3 : w.cell? ⟨x, 6, none⟩ = some (.slice (some ⟨gf, 0, none⟩) (V + 1) cf) := cell_of_row _ _ _ _ 84 _ h.row
  have HF : Hid _ := h.fst
  have H1 : Hid _ := h1
  have H2 : Hid _ := h2
  clear h h1 h2
  go_enter Tryz.func77, Tryz.ntmps77
  go_wp2_with fail
  go_loopw [5] (fun iv wr => ∃ i : Nat, i ≤ v ∧ iv = .int .i64 i ∧ wr = w) (fun iv _ => v - (intOf iv).toNat)
  case atStart => exact ⟨0, by omega, rfl, rfl⟩
  case round =>
    obtain ⟨i, hi, rfl, hw⟩ := hrel
    subst hw
    have f := HF.out (i + 1) (by omega)
    obtain ⟨A, hA⟩ : ∃ A, (i + 1) * nb / V = A := ⟨_, rfl⟩
    rw [hA] at f
    by_cases hlt : i < v
    · have hle : (A : Int) ≤ (n : Int) := by
        have := rng_le (nb := nb) (V := V) (show i + 1 ≤ v by omega)
        have h1 := H1.out
        rw [hA] at this
        omega
      have f' : wr.cell? ⟨gf, i + 1, none⟩ = some (.int .i64 (A : Nat)) := f
      clear hA f
      go_wp2_with fail
      go_roundw
      case rel => exact ⟨i + 1, by omega, by go_num, by first | rfl | trivial⟩
      case measure => simp [intOf]; omega
    · obtain rfl : i = v := by omega
      have hle : ¬ (A : Int) ≤ (n : Int) := by
        have h2 := H2.out
        rw [hA] at h2
        omega
      have f' : wr.cell? ⟨gf, i + 1, none⟩ = some (.int .i64 (A : Nat)) := f
      clear hA f
      go_wp2_with fail
      go_ret
      exact ⟨rfl, rfl⟩
/-- a block out of a volume -/
def bkO (t : ByteArray) (p C i : Nat) : ByteArray := t.extract (p + i * C) (p + i * C + C)
theorem block_any (x gf cf gp cp K M C V ns nb n v gv cv : Nat) (pl : Nat → Nat) (L : Nat → ByteArray) (w : World) (h : Pln x gf cf gp cp K M C V ns nb pl w) (hV : V ≤ 1000) (hC : C ≤ 1000) (hnb : nb ≤ 1000000) (hv : v < V) (h1 : v * nb / V ≤ n) (h2 : n < (v + 1) * nb / V)
    (hp : pl v ≤ 1000000000) (hL : ∀ v, v < V → w.cell? ⟨gv, v, none⟩ = some (.string (L v))) (hfit : pl v + (n - v * nb / V) * C + C ≤ (L v).size) :
    Calls Tryz.prog 35 #[.pointer (some ⟨x, 0, none⟩), .slice (some ⟨gv, 0, none⟩) V cv, .int .i64 n] w fun e w' => e = .returned (.string (bkO (L v) (pl v) C (n - v * nb / V))) ∧ ∃ m, w' = w.drewN m := by
  have HV : Hid _ := volumeOf_any x gf cf gp cp K M C V ns nb n v pl w h hV hv h1 h2
  have c2 : w.cell? ⟨x, 2, none⟩ = some (.int .i64 C) := cell_of_row _ _ _ _ 84 _ h.row
  have c3 : w.cell? ⟨x, 6, none⟩ = some (.slice (some ⟨gf, 0, none⟩) (V + 1) cf) := cell_of_row _ _ _ _ 84 _ h.row
  have c4 : w.cell? ⟨x, 7, none⟩ = some (.slice (some ⟨gp, 0, none⟩) V cp) := cell_of_row _ _ _ _ 84 _ h.row
  have f := h.fst v (by omega)
  have p := h.plc v hv
  have l := hL v hv
  have hn : n ≤ 1000000 := by have := rng_top (nb := nb) (v := v + 1) (by omega : 1 ≤ V) (by omega); omega
  obtain ⟨A, hA⟩ : ∃ A, v * nb / V = A := ⟨_, rfl⟩
  rw [hA] at f h1 hfit ⊢
  obtain ⟨P, hP⟩ : ∃ P, pl v = P := ⟨_, rfl⟩
  rw [hP] at p hp hfit ⊢
  obtain ⟨i, hi⟩ : ∃ i, n - A = i := ⟨_, rfl⟩
  rw [hi] at hfit ⊢
  have hiC : i * C ≤ 1000000 * 1000 := Nat.mul_le_mul (by omega) hC
  obtain ⟨Z, hZ⟩ : ∃ Z, i * C = Z := ⟨_, rfl⟩
  have e1 : IntKind.i64.wrap ((n : Int) - (A : Int)) = (i : Int) := by rw [IntKind.wrap_i64]; omega
  have e2 : IntKind.i64.wrap ((i : Int) * (C : Int)) = (Z : Int) := by rw [← Int.natCast_mul, hZ, IntKind.wrap_i64]; omega
  rw [hZ] at hfit hiC
  have hb : bkO (L v) P C i = (L v).extract (P + Z) (P + Z + C) := by unfold bkO; rw [hZ]
  rw [hb]
  have e3 : IntKind.i64.wrap ((P : Int) + (Z : Int)) = ((P + Z : Nat) : Int) := by rw [IntKind.wrap_i64]; omega
  have e4 : IntKind.i64.wrap (((P + Z : Nat) : Int) + (C : Int)) = ((P + Z + C : Nat) : Int) := by rw [IntKind.wrap_i64]; omega
  clear hA hP hi hZ h hL h1 h2 hb
  go_enter Tryz.func35, Tryz.ntmps35
  go_wp2_with fail
  refine Calls.mono HV.out ?_
  rintro e w1 ⟨rfl, rfl⟩
  go_wp2_with fail
  go_quiet (fail)
  obtain ⟨D, hD⟩ : ∃ D, P + Z = D := ⟨_, rfl⟩
  have hDi : (P : Int) + (Z : Int) = (D : Int) := by omega
  rw [hD] at e4 hfit
  rw [hDi]
  have HDD : Hid _ := hD
  clear e3 hDi hD
  obtain ⟨E, hE⟩ : ∃ E, D + C = E := ⟨_, rfl⟩
  rw [hE] at e4 hfit
  have k1 : (0 : Int) ≤ (D : Int) := by omega
  have k2 : (D : Int) ≤ (E : Int) := by omega
  have k3 : (E : Int) ≤ ((L v).size : Int) := by omega
  have HEE : Hid _ := hE
  clear hE
  go_wp2_with fail
  go_quiet (fail)
  go_wp2_with fail
  go_ret
  exact ⟨by rw [HDD.out, HEE.out]; rfl, _, by rw [World.drewN_drewN]⟩
theorem clash_any (kt : Nat → Int) (a b : ByteArray) (w : World) (hG : Gd kt w) (ha : a.size ≤ 1000000) (hb : b.size ≤ 1000000) :
    Calls Tryz.prog 34 #[.string a, .string b] w fun e w' => e = .returned (.bool (decide (a ≠ b ∧ leafT (ofT kt) a = leafT (ofT kt) b))) ∧ Below w.heap.size w w' := by
  have HD : Hid (∀ (t : ByteArray) (W : World), t.size ≤ 1000000 → Below w.heap.size w W → Calls Tryz.prog 79 #[.string (⟨#[0]⟩ ++ t)] W fun e w' => e = .returned (.string (leafT (ofT kt) t)) ∧ Below W.heap.size W w') := fun t W ht hW => by
    have e1 : (⟨#[0]⟩ : ByteArray).size = 1 := rfl
    have h2 : ((⟨#[0]⟩ : ByteArray) ++ t).size ≤ 140737488351232 := by rw [ByteArray.size_append, e1]; omega
    have h3 := vdigest_any kt (⟨#[0]⟩ ++ t) W h2 (hG.below hW).tab (hG.below hW).one
    unfold leafT
    exact h3
  obtain ⟨D, hD⟩ : ∃ D, leafT (ofT kt) = D := ⟨_, rfl⟩
  rw [hD] at HD ⊢
  clear hG hD
  go_enter Tryz.func34, Tryz.ntmps34
  go_wp2_with fail
  refine Calls.mono (HD.out a w ha (Below.refl _ _)) ?_
  rintro e w1 ⟨rfl, hb1⟩
  have HB1 : Hid _ := hb1
  clear hb1
  go_wp2_with fail
  refine Calls.mono (HD.out b w1 hb HB1.out) ?_
  rintro e w2 ⟨rfl, hb2⟩
  have HB2 : Hid (Below w.heap.size w w2) := HB1.out.trans (hb2.mono HB1.out.size)
  clear hb2 HD
  by_cases hab : a = b
  · have q1 : (a.toList == b.toList) = true := texts_eq hab
    have hd : decide (a ≠ b ∧ D a = D b) = false := decide_eq_false (fun h => h.1 hab)
    have HH : Hid _ := hd
    clear hab hd
    go_wp2_with fail
    go_ret
    exact ⟨by rw [HH.out]; rfl, HB2.out⟩
  · have q1 : (a.toList == b.toList) = false := texts_ne hab
    by_cases hl : D a = D b
    · have q2 : ((D a).toList == (D b).toList) = true := texts_eq hl
      have hd : decide (a ≠ b ∧ D a = D b) = true := decide_eq_true ⟨hab, hl⟩
      have HH : Hid _ := hd
      clear hab hd hl
      go_wp2_with fail
      go_ret
      exact ⟨by rw [HH.out]; rfl, HB2.out⟩
    · have q2 : ((D a).toList == (D b).toList) = false := texts_ne hl
      have hd : decide (a ≠ b ∧ D a = D b) = false := decide_eq_false (fun h => hl h.2)
      have HH : Hid _ := hd
      clear hab hd hl
      go_wp2_with fail
      go_ret
      exact ⟨by rw [HH.out]; rfl, HB2.out⟩
end Go.Proofs.YtadinjaocnlglaaGreatDoor
