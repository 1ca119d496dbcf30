/-
  Plain: what is told of volumes that were overwritten, cut off or left out.
  What vaultkeep.Located keeps from loop to loop.
-/
import Derived.Test.YtadinjaocnlglaaGreatDoorZ42
import Derived.Test.YtadinjaocnlglaaGreatDoorZ43
import Derived.Test.YtadinjaocnlglaaGreatDoorZ38
import Derived.Test.YtadinjaocnlglaaGreatDoorZ46
namespace Go.Proofs.YtadinjaocnlglaaGreatDoor
open Go.RowKit Go.Maps
set_option maxRecDepth 100000
set_option maxHeartbeats 1000000
theorem abF_eq (rd : Nat → Bool) : ∀ n, abF rd n = (List.range n).filter (fun i => !rd i)
  | 0 => rfl
  | n + 1 => by
    rw [abF, List.range_succ, List.filter_append, abF_eq rd n]
    cases h : rd n <;> simp [h]
theorem badF_eq (h : Nat → Bool) (o : Nat) : ∀ n, badF h o n = ((List.range n).filter (fun i => !h i)).map (o + ·)
  | 0 => rfl
  | n + 1 => by
    rw [badF, List.range_succ, List.filter_append, List.map_append, badF_eq h o n]
    cases e : h n <;> simp [e]
theorem fsF_eq (kt : Nat → Int) (T : TT) (bl : Nat → ByteArray) (c : Nat) : ∀ n, fsF kt T bl c n = (List.range n).filter (fun s => decide (stF kt T bl s = c))
  | 0 => rfl
  | n + 1 => by
    rw [fsF, List.range_succ, List.filter_append, fsF_eq kt T bl c n]
    by_cases e : stF kt T bl n = c <;> simp [e]
theorem baF_eq {kt : Nat → Int} {T : TT} {bl : Nat → ByteArray} {ok : Nat → Bool} : ∀ n, (∀ s i, s < n → i < T.n → stH kt T bl s i = ok (s * T.n + i)) → baF kt T bl n = (List.range (n * T.n)).filter (fun x => !ok x)
  | 0, _ => by simp [baF]
  | n + 1, h => by
    rw [baF, baF_eq n (fun s i hs hi => h s i (by omega) hi), Nat.succ_mul, List.range_add, List.filter_append]
    congr 1
    unfold stB
    rw [badF_eq, List.filter_map]
    congr 1
    apply List.filter_congr
    intro i hi
    rw [h n i (by omega) (List.mem_range.1 hi)]
    rfl
section
variable {kt : Nat → Int} {K M C V nb : Nat} {es : List (ByteArray × Nat)} {s : ByteArray} {out : Nat → Bool} {cut : Nat → Nat} {R H : Nat → ByteArray} {m : Nat}
/-- what is left, as texts that are volumes -/
theorem rest_part (h : VOk K M C V nb es s) (sz : ∀ v, v < V → (R v).size = ((v + 1) * nb / V - v * nb / V) * C) (lo : ∀ v, v < V → v * nb / V ≤ cut v) (hi : ∀ v, v < V → cut v ≤ (v + 1) * nb / V) (left : ∃ v, v < V ∧ out v = false)
    (hm : m = (kpL out V).length) (hp : (texL H m).Perm ((kpL out V).map (fun v => hdE kt K M C V es s v ++ (R v).extract 0 ((cut v - v * nb / V) * C)))) :
    ∃ Nu Rr, Part kt K M C V nb es s H m Nu Rr ∧ 0 < m ∧ (∀ v, v < V → out v = false → ∃ j, j < m ∧ Nu j = v) ∧ (∀ j, j < m → out (Nu j) = false) ∧ (∀ v x, v < V → v * nb / V ≤ x → x < (v + 1) * nb / V → out v = false → x < cut v → blL H m x = pc (R v) C (x - v * nb / V)) ∧ (∀ v x, v < V → v * nb / V ≤ x → x < (v + 1) * nb / V → ¬ (out v = false ∧ x < cut v) → blL H m x = ⟨#[]⟩) := by
  have hC1 := h.lok.c1
  obtain ⟨N0, hN0⟩ : ∃ N0 : Nat → Nat, N0 = fun j => (kpL out V).getD j 0 := ⟨_, rfl⟩
  have hNi : ∀ j, j < m → ∃ hj : j < (kpL out V).length, N0 j = (kpL out V)[j] := fun j hj => ⟨by omega, by
    rw [hN0]
    show (kpL out V).getD j 0 = _
    rw [List.getD_eq_getElem?_getD, List.getElem?_eq_getElem (by omega)]; rfl⟩
  have hNm : ∀ j, j < m → N0 j < V ∧ out (N0 j) = false := fun j hj => by
    obtain ⟨h1, h2⟩ := hNi j hj
    rw [h2]
    exact kpL_mem.1 (List.getElem_mem h1)
  have hNe : ∀ j k, j < m → k < m → j ≠ k → N0 j ≠ N0 k := fun j k hj hk hne e => by
    obtain ⟨a1, a2⟩ := hNi j hj
    obtain ⟨b1, b2⟩ := hNi k hk
    rw [a2, b2] at e
    rcases Nat.lt_or_gt_of_ne hne with h1 | h1
    · exact List.pairwise_iff_getElem.1 (kpL_nodup out V) j k a1 b1 h1 e
    · exact List.pairwise_iff_getElem.1 (kpL_nodup out V) k j b1 a1 h1 e.symm
  have hNs : ∀ v, v < V → out v = false → ∃ j, j < m ∧ N0 j = v := fun v hv ho => by
    obtain ⟨j, hj, e⟩ := List.getElem_of_mem (kpL_mem.2 ⟨hv, ho⟩)
    refine ⟨j, by omega, ?_⟩
    obtain ⟨a1, a2⟩ := hNi j (by omega)
    rw [a2]; exact e
  obtain ⟨R2, hR2⟩ : ∃ R2 : Nat → ByteArray, R2 = fun v => (R v).extract 0 ((cut v - v * nb / V) * C) := ⟨_, rfl⟩
  have hp2 : (texL H m).Perm (texL (fun j => hdE kt K M C V es s (N0 j) ++ R2 (N0 j)) m) := by
    refine hp.trans (List.Perm.of_eq ?_)
    apply List.ext_getElem
    · simp [texL, hm]
    · intro j h1 h2
      have hj : j < m := by simpa [texL] using h2
      obtain ⟨a1, a2⟩ := hNi j hj
      simp only [texL, List.getElem_map, List.getElem_range]
      rw [a2, hR2]
  obtain ⟨P, n1, n2, n3⟩ := perm_part hp2 (fun u v hu hv hne => h.inj kt R2 (N0 u) (N0 v) (hNm u hu).1 (hNm v hv).1 (hNe u v hu hv hne))
  have hms : ∀ v, v < V → (R2 v).size = (cut v - v * nb / V) * C := fun v hv => by
    have e1 := sz v hv
    have e2 := hi v hv
    have e3 : (cut v - v * nb / V) * C ≤ ((v + 1) * nb / V - v * nb / V) * C := Nat.mul_le_mul_right _ (by omega)
    rw [hR2]
    show ((R v).extract 0 _).size = _
    rw [ByteArray.size_extract]
    omega
  have p : Part kt K M C V nb es s H m (fun j => N0 (P j)) (fun j => R2 (N0 (P j))) :=
    ⟨fun j hj => (n1 j hj).2, fun j hj => (hNm _ (n1 j hj).1).1, fun j hj => by
      have hv := (hNm _ (n1 j hj).1).1
      show (R2 (N0 (P j))).size ≤ _
      rw [hms _ hv]
      exact Nat.mul_le_mul_right _ (by have := hi _ hv; omega), fun j k hj hk hne => hNe _ _ (n1 j hj).1 (n1 k hk).1 (n2 j k hj hk hne)⟩
  have hs3 : ∀ v, v < V → out v = false → ∃ j, j < m ∧ N0 (P j) = v := fun v hv ho => by
    obtain ⟨k, hk, e⟩ := hNs v hv ho
    obtain ⟨j, hj, e2⟩ := n3 k hk
    exact ⟨j, hj, by rw [e2, e]⟩
  have hm0 : 0 < m := by
    obtain ⟨v, hv, ho⟩ := left
    obtain ⟨j, hj, _⟩ := hs3 v hv ho
    omega
  refine ⟨_, _, p, hm0, hs3, fun j hj => (hNm _ (n1 j hj).1).2, fun v x hv h1 h2 ho hcx => ?_, fun v x hv h1 h2 hn => ?_⟩
  · obtain ⟨j, hj, e⟩ := hs3 v hv ho
    have := p.bl h (j := j) (i := x - v * nb / V) hj (by
      show _ < (R2 (N0 (P j))).size / C
      rw [e, hms v hv, Nat.mul_div_cancel _ hC1]; omega)
    have this' : blL H m (N0 (P j) * nb / V + (x - v * nb / V)) = pc (R2 (N0 (P j))) C (x - v * nb / V) := this
    rw [e, show v * nb / V + (x - v * nb / V) = x by omega] at this'
    rw [this', hR2]
    exact pc_take (by omega)
  · refine p.no h (fun j hj => ?_)
    show ¬ (N0 (P j) * nb / V ≤ x ∧ x < N0 (P j) * nb / V + (R2 (N0 (P j))).size / C)
    obtain ⟨hu, huo⟩ := hNm _ (n1 j hj).1
    have hlo := lo _ hu
    have hhi := hi _ hu
    rw [hms _ hu, Nat.mul_div_cancel _ hC1]
    generalize N0 (P j) = u at hu huo hlo hhi ⊢
    rintro ⟨b1, b2⟩
    have hue : u = v := by
      rcases Nat.lt_trichotomy u v with e | e | e
      · have := rng_mono (cnt := nb) (V := V) e; omega
      · exact e
      · have := rng_mono (cnt := nb) (V := V) e; omega
    subst hue
    exact hn ⟨huo, by omega⟩
end
/-- which stripes are short -/
def shL (ok : Nat → Bool) (K M ns : Nat) : List Nat := (List.range ns).filter (fun s => decide (M < cnt (fun i => !ok (s * (K + M) + i)) (K + M)))
/-- all that is true of what is left, when it was opened -/
structure Lcd (kt : Nat → Int) (F : Nat → Ob) (q K M C V nb ns : Nat) (ok out : Nat → Bool) (s : OS) (t0 : ByteArray) : Prop where
  un : s.un = []
  T : ∃ v l, Tld (tT t0) K M C V v (esF F q) (rtE kt K M C V (esF F q) (smF F q)) (lsE K M C V (esF F q)) (lvE kt K M C (smF F q)) l
  ab : abF s.rd (tT t0).L.V = (List.range V).filter (fun v => out v)
  ba : baF kt (tT t0) s.bl (tT t0).L.ns = (List.range nb).filter (fun x => !ok x)
  sh : fsF kt (tT t0) s.bl 1 (tT t0).L.ns = shL ok K M ns
  fo : fsF kt (tT t0) s.bl 2 (tT t0).L.ns = []
  fin : ∀ j, j < q → hitB (K * C) (lenE ((esF F q).take j)) (lenE ((esF F q).take j) + (F j).2.size) (shL ok K M ns) = !finJ kt (tT t0) s.bl j
  obj : ∀ j, j < q → finJ kt (tT t0) s.bl j = true → unO kt (tT t0) s.bl j = F j
theorem located_plain {kt : Nat → Int} {F : Nat → Ob} {q K M C V nb ns : Nat} (hS : Srt q F) (hK1 : 1 ≤ K) (hK2 : K ≤ 5) (hM : M ≤ 3) (hC1 : 1 ≤ C) (hC2 : C ≤ 8) (hV1 : 1 ≤ V) (hV2 : V ≤ 5) (hq : q ≤ 5) (hnb : nbT K M C (smF F q) = nb) (hns0 : nst (K * C) (smF F q).size = ns) {ok out : Nat → Bool} {cut : Nat → Nat} {R : Nat → ByteArray}
    (sz : ∀ v, v < V → (R v).size = ((v + 1) * nb / V - v * nb / V) * C) (lo : ∀ v, v < V → v * nb / V ≤ cut v) (hi : ∀ v, v < V → cut v ≤ (v + 1) * nb / V) (left : ∃ v, v < V ∧ out v = false)
    (hok : ∀ v i, v < V → v * nb / V + i < (v + 1) * nb / V → ok (v * nb / V + i) = decide ((out v = false ∧ v * nb / V + i < cut v) ∧ pc (R v) C i = bkT K M C (smF F q) (v * nb / V + i)))
    (hno : ∀ v i, v < V → v * nb / V + i < (v + 1) * nb / V → out v = false → v * nb / V + i < cut v → leafT (ofT kt) (bkT K M C (smF F q) (v * nb / V + i)) = leafT (ofT kt) (pc (R v) C i) → bkT K M C (smF F q) (v * nb / V + i) = pc (R v) C i)
    {H : Nat → ByteArray} {m : Nat} (hm : m = (kpL out V).length) (hp : (texL H m).Perm ((kpL out V).map (fun v => hdE kt K M C V (esF F q) (smF F q) v ++ (R v).extract 0 ((cut v - v * nb / V) * C)))) {rt : ByteArray} (hrt : rt = ⟨#[]⟩ ∨ rt = rtT kt K M C V (datOf F q) (nmF F q)) :
    (∃ s t0, Opn kt rt H m s t0) ∧ ∀ s t0, Opn kt rt H m s t0 → Lcd kt F q K M C V nb ns ok out s t0 := by
  have h := srt_ok hS hK1 hK2 hM hC1 hC2 hV1 hV2 hq
  rw [rt_eq hS] at hrt
  rw [hnb] at h
  obtain ⟨Nu, Rr, p, hm0, hs3, hou, hthere, hgone⟩ := rest_part (kt := kt) h sz lo hi left hm hp
  have hG := p.good h hrt
  have hrun := good_run m hG
  have hsz : rt.size = 0 ∨ rt.size = 32 := by
    rcases hrt with e | e
    · left; rw [e]; rfl
    · right; rw [e]; exact ofT_size _ _
  have hin : ∀ x, x < nb → ∃ v, v < V ∧ v * nb / V ≤ x ∧ x < (v + 1) * nb / V := fun x hx => in_range nb V x V (by rw [Nat.mul_div_cancel_left _ hV1]; exact hx)
  have hmain : ∀ x, x < nb → goodB kt C (lvE kt K M C (smF F q)) x (blL H m x) = ok x ∧ (ok x = true → blL H m x = bkT K M C (smF F q) x) := fun x hx => by
    obtain ⟨v, hv, h1, h2⟩ := hin x hx
    have ex : v * nb / V + (x - v * nb / V) = x := by omega
    have ho := hok v (x - v * nb / V) hv (by omega)
    have hn := hno v (x - v * nb / V) hv (by omega)
    rw [ex] at ho hn
    by_cases ht : out v = false ∧ x < cut v
    · have hb := hthere v x hv h1 h2 ht.1 ht.2
      have hbs : (pc (R v) C (x - v * nb / V)).size = C := pc_size _ C ((v + 1) * nb / V - v * nb / V) _ (sz v hv) (by omega)
      unfold goodB
      rw [lv_pc kt K M C (smF F q) (by rw [hnb]; exact hx), hb, ho]
      refine ⟨?_, fun e => (of_decide_eq_true e).2⟩
      by_cases e : pc (R v) C (x - v * nb / V) = bkT K M C (smF F q) x
      · rw [decide_eq_true (show (out v = false ∧ x < cut v) ∧ _ from ⟨ht, e⟩)]
        exact decide_eq_true ⟨hbs, by rw [e]; rfl⟩
      · rw [decide_eq_false (show ¬ ((out v = false ∧ x < cut v) ∧ _) from fun hh => e hh.2)]
        exact decide_eq_false (fun hh => e (hn ht.1 ht.2 hh.2.symm).symm)
    · have hb := hgone v x hv h1 h2 ht
      rw [ho, decide_eq_false (show ¬ ((out v = false ∧ x < cut v) ∧ _) from fun hh => ht hh.1), hb]
      refine ⟨decide_eq_false (fun hh => ?_), fun e => by cases e⟩
      have : (⟨#[]⟩ : ByteArray).size = 0 := rfl
      omega
  refine ⟨⟨stO H m, H 0, hsz, hrun, by unfold stO; rw [if_neg (by omega)]⟩, ?_⟩
  rintro s t0 ⟨_, hr, hh⟩
  rw [hrun] at hr
  obtain rfl : stO H m = s := Except.ok.inj hr
  obtain rfl : H 0 = t0 := by unfold stO at hh; rw [if_neg (by omega)] at hh; exact Option.some.inj hh
  have hT := p.tld h (j := 0) hm0
  have hT' : Tld (tT (H 0)) K M C V (Nu 0) (esF F q) _ _ _ _ := hT
  have hns : (tT (H 0)).L.ns = ns := by
    unfold LT.ns; rw [hT'.K, hT'.C, hT'.es, ← h.len, hns0]
  have hn : (tT (H 0)).n = K + M := by
    unfold TT.n; rw [hT'.K, hT'.M]
  have hnsn : ns * (K + M) = nb := by rw [← hns0]; exact h.ct
  have hxlt : ∀ st i, st < ns → i < K + M → st * (K + M) + i < nb := fun st i hst hi => by
    have h1 : (st + 1) * (K + M) ≤ ns * (K + M) := Nat.mul_le_mul_right _ hst
    rw [hnsn, Nat.succ_mul] at h1
    omega
  have hHe : ∀ st i, st < ns → i < K + M → stH kt (tT (H 0)) (blL H m) st i = ok (st * (K + M) + i) := fun st i hst hi => by
    unfold stH; rw [hn, hT'.C, hT'.lv]
    exact (hmain _ (hxlt st i hst hi)).1
  have hstr : ∀ st, st < ns → (M < cnt (fun i => !ok (st * (K + M) + i)) (K + M) → stF kt (tT (H 0)) (blL H m) st = 1) ∧ (¬ M < cnt (fun i => !ok (st * (K + M) + i)) (K + M) → stF kt (tT (H 0)) (blL H m) st = 0 ∧ ∀ i, i < K + M → stM kt (tT (H 0)) (blL H m) st i = bkT K M C (smF F q) (st * (K + M) + i)) := fun st hst => by
    have hce : cnt (stH kt (tT (H 0)) (blL H m) st) (K + M) = cnt (fun i => ok (st * (K + M) + i)) (K + M) := cnt_same _ _ _ (fun j hj => hHe st j hst hj)
    have hnot := cnt_not (fun i => ok (st * (K + M) + i)) (K + M)
    refine ⟨fun hgt => ?_, fun hle => ?_⟩
    · unfold stF fate
      rw [hT'.K, hT'.M, if_pos (by omega)]
    · refine h.stripe hT (by rw [hns0]; exact hst) (fun i hi hg => ?_) (by omega)
      rw [hHe st i hst hi] at hg
      exact (hmain _ (hxlt st i hst hi)).2 hg
  have hshm : ∀ st, st < ns → (st ∈ shL ok K M ns ↔ stF kt (tT (H 0)) (blL H m) st ≠ 0) := fun st hst => by
    unfold shL
    rw [List.mem_filter, decide_eq_true_iff]
    constructor
    · intro hh
      rw [(hstr st hst).1 hh.2]; simp
    · intro hh
      refine ⟨List.mem_range.2 hst, Classical.byContradiction (fun hc => hh ((hstr st hst).2 hc).1)⟩
  have hlen : ∀ j, j < q → lenE ((esF F q).take j) + (F j).2.size ≤ (smF F q).size := fun j hj => by
    have e := take_len (esF F q) j (by rw [esF_len]; exact hj)
    rw [(esF_get F q j hj).2] at e
    rw [sm_size, ← e]
    exact lenE_take_le _ _
  have hxz : ∀ j x, j < q → x < lenE ((esF F q).take j) + (F j).2.size → x / (K * C) < ns := fun j x hj hx => by
    rw [← hns0, Nat.div_lt_iff_lt_mul h.z]
    exact Nat.lt_of_lt_of_le (Nat.lt_of_lt_of_le hx (hlen j hj)) (nst_le _ _ h.z)
  have hfe : ∀ j, j < q → finJ kt (tT (H 0)) (blL H m) j = true → ∀ x, lenE ((esF F q).take j) ≤ x → x < lenE ((esF F q).take j) + (F j).2.size → stF kt (tT (H 0)) (blL H m) (x / (K * C)) = 0 := fun j hj hf x h1 h2 => by
    unfold finJ at hf
    rw [List.all_eq_true, hT'.es, hT'.K, hT'.C, (esF_get F q j hj).2] at hf
    have := of_decide_eq_true (hf (x - lenE ((esF F q).take j)) (List.mem_range.2 (by omega)))
    rw [show lenE ((esF F q).take j) + (x - lenE ((esF F q).take j)) = x by omega] at this
    exact this
  refine ⟨rfl, ⟨_, _, hT⟩, ?_, ?_, ?_, ?_, fun j hj => ?_, fun j hj hf => ?_⟩
  · show abF (rdL H m) (tT (H 0)).L.V = _
    rw [hT'.V, abF_eq]
    apply List.filter_congr
    intro v hv
    have hv' := List.mem_range.1 hv
    cases ho : out v with
    | false =>
      obtain ⟨j, hj, e⟩ := hs3 v hv' ho
      have : rdL H m v = true := (rdL_iff H m v).2 ⟨j, hj, by rw [← e]; exact (p.tld h hj).num⟩
      rw [this]; rfl
    | true =>
      have : rdL H m v = false := by
        cases hr : rdL H m v with
        | false => rfl
        | true =>
          obtain ⟨j, hj, e⟩ := (rdL_iff H m v).1 hr
          have e2 : (tT (H j)).num = Nu j := (p.tld h hj).num
          have := hou j hj
          rw [← e2, e, ho] at this
          cases this
      rw [this]; rfl
  · show baF kt (tT (H 0)) (blL H m) (tT (H 0)).L.ns = _
    rw [baF_eq (ok := ok) _ (fun s i hs hi => by rw [hn] at hi ⊢; rw [hns] at hs; exact hHe s i hs hi), hn, hns, hnsn]
  · show fsF kt (tT (H 0)) (blL H m) 1 (tT (H 0)).L.ns = _
    rw [fsF_eq, hns]
    unfold shL
    apply List.filter_congr
    intro st hst
    have hst' := List.mem_range.1 hst
    by_cases hc : M < cnt (fun i => !ok (st * (K + M) + i)) (K + M)
    · rw [(hstr st hst').1 hc, decide_eq_true hc]; rfl
    · rw [((hstr st hst').2 hc).1, decide_eq_false hc]; rfl
  · show fsF kt (tT (H 0)) (blL H m) 2 (tT (H 0)).L.ns = _
    refine fsF_all _ (fun st hst => ?_)
    rw [hns] at hst
    by_cases hc : M < cnt (fun i => !ok (st * (K + M) + i)) (K + M)
    · rw [(hstr st hst).1 hc]; omega
    · rw [((hstr st hst).2 hc).1]; omega
  · show _ = !finJ kt (tT (H 0)) (blL H m) j
    cases hf : finJ kt (tT (H 0)) (blL H m) j with
    | true =>
      refine hitB_no (fun x h1 h2 hmem => ?_)
      exact (hshm _ (hxz j x hj h2)).1 hmem (hfe j hj hf x h1 h2)
    | false =>
      unfold finJ at hf
      rw [List.all_eq_false, hT'.es, hT'.K, hT'.C, (esF_get F q j hj).2] at hf
      obtain ⟨i, hi', hd⟩ := hf
      have hi2 := List.mem_range.1 hi'
      refine hitB_yes (k := lenE ((esF F q).take j) + i) (by omega) (by omega) ((hshm _ (hxz j _ hj (by omega))).2 (fun e => hd (decide_eq_true e)))
  · refine un_one hj hT.es (fun x h1 h2 => ?_)
    have hx := hxz j x hj h2
    have hf0 := hfe j hj hf x h1 h2
    refine h.byte (T := tT (H 0)) hT (by rw [hns0]; exact hx) (fun i hi => ?_)
    by_cases hc : M < cnt (fun i => !ok ((x / (K * C)) * (K + M) + i)) (K + M)
    · rw [(hstr _ hx).1 hc] at hf0; cases hf0
    · exact ((hstr _ hx).2 hc).2 i (by omega)
end Go.Proofs.YtadinjaocnlglaaGreatDoor
namespace Go.Proofs.YtadinjaocnlglaaGreatDoor
open Go.RowKit
set_option maxRecDepth 100000
set_option maxHeartbeats 1000000
theorem own_int {w : World} {B : Nat} {v : Value} {xs : List Nat} (x : Nat) (h : w.ownsRow B 3 1 v xs.length (unV xs)) (hB : B ≤ w.heap.size) (hx : xs.length ≤ 1000000) :
    ∃ v' w2, (Builtin.append_ #[39, 39] 39 #[v, .slice (some ⟨w.heap.size, 0, none⟩) 1 1]).run Tryz.prog (w.alloc (.cells #[.int .i64 x] 3)) = .ok v' w2 ∧ w2.ownsRow B 3 1 v' (xs ++ [x]).length (unV (xs ++ [x])) ∧ (w.alloc (.cells #[.int .i64 x] 3)).grownBy w2 v.ownBlock := by
  obtain ⟨i0, hi0, z0, z1, z2⟩ := info_parts info3
  obtain ⟨v', w2, hrun, ho2, hg, _⟩ := app_rows 39 Tryz.underlying39 hi0 z0 z1 z2 rfl (by decide) (h.alloc (.cells #[.int .i64 x] 3)) (own_one w x) (by intro u hu; simp at hu; subst hu; rfl) (by omega) (by omega) (by simp; omega)
  refine ⟨v', w2, hrun, ?_, hg⟩
  have e1 : (xs ++ [x]).length = xs.length + 1 := by simp
  have e2 : unV (xs ++ [x]) = unV xs ++ [.int .i64 (x : Nat)] := by simp [unV]
  rw [e1, e2]
  exact ho2
theorem ok_ex (V nb : Nat) (D : Nat → Nat → Bool) : ∃ ok : Nat → Bool, ∀ v i, v < V → v * nb / V + i < (v + 1) * nb / V → ok (v * nb / V + i) = D v i := by
  refine ⟨fun x => @dite Bool (∃ v, v < V ∧ v * nb / V ≤ x ∧ x < (v + 1) * nb / V) (Classical.propDecidable _) (fun h => D (Classical.choose h) (x - Classical.choose h * nb / V)) (fun _ => false), fun v i hv hi => ?_⟩
  have hex : ∃ u, u < V ∧ u * nb / V ≤ v * nb / V + i ∧ v * nb / V + i < (u + 1) * nb / V := ⟨v, hv, by omega, hi⟩
  show @dite Bool _ (Classical.propDecidable _) _ _ = _
  rw [dif_pos hex]
  obtain ⟨h1, h2, h3⟩ := Classical.choose_spec hex
  have e : Classical.choose hex = v := by
    rcases Nat.lt_trichotomy (Classical.choose hex) v with e | e | e
    · have := rng_mono (cnt := nb) (V := V) e; omega
    · exact e
    · have := rng_mono (cnt := nb) (V := V) e; omega
  rw [e, Nat.add_sub_cancel_left]
theorem cnt_add (h : Nat → Bool) (a : Nat) : ∀ b, cnt h (a + b) = cnt h a + cnt (fun i => h (a + i)) b
  | 0 => rfl
  | b + 1 => by
    rw [← Nat.add_assoc, cnt, cnt, cnt_add h a b]
    omega
/-- the bad blocks of a stripe so far -/
def ctS (ok : Nat → Bool) (z n s : Nat) : Nat := cnt (fun x => !ok x && decide (x / z = s)) n
theorem ctS_bad {ok : Nat → Bool} {z n : Nat} (h : ok n = false) (s : Nat) : ctS ok z (n + 1) s = if s = n / z then ctS ok z n s + 1 else ctS ok z n s := by
  unfold ctS
  rw [cnt]
  by_cases e : s = n / z
  · subst e; simp [h]
  · rw [if_neg e]
    have : ¬ n / z = s := fun x => e x.symm
    simp [h, this]
theorem ctS_ok {ok : Nat → Bool} {z n : Nat} (h : ok n = true) (s : Nat) : ctS ok z (n + 1) s = ctS ok z n s := by
  unfold ctS
  rw [cnt]
  simp [h]
theorem ctS_le (ok : Nat → Bool) (z n s : Nat) : ctS ok z n s ≤ n := cnt_le _ _
theorem ctS_end {ok : Nat → Bool} {z ns s : Nat} (hz : 0 < z) (hs : s < ns) : ctS ok z (ns * z) s = cnt (fun i => !ok (s * z + i)) z := by
  unfold ctS
  have h1 : (s + 1) * z ≤ ns * z := Nat.mul_le_mul_right _ hs
  rw [Nat.succ_mul] at h1
  obtain ⟨r, hr⟩ : ∃ r, ns * z = s * z + z + r := ⟨ns * z - (s * z + z), by omega⟩
  rw [hr, cnt_add, cnt_add]
  rw [cnt_none (fun x => !ok x && decide (x / z = s)) (s * z) (fun j hj => by
    have : j / z < s := by rw [Nat.div_lt_iff_lt_mul hz]; exact hj
    simp; intro _; omega)]
  rw [cnt_none (fun i => (fun x => !ok x && decide (x / z = s)) (s * z + z + i)) r (fun j _ => by
    have : s + 1 ≤ (s * z + z + j) / z := by rw [Nat.le_div_iff_mul_le hz, Nat.succ_mul]; omega
    simp; intro _; omega)]
  rw [Nat.zero_add, Nat.add_zero]
  refine cnt_same _ _ _ (fun j hj => ?_)
  have : (s * z + j) / z = s := (div_of hj).1
  simp [this]
/-- a turn leaves the heads and the sizes -/
theorem tu_keep {C V nb : Nat} {pl : Nat → Nat} {hd L L' R : Nat → ByteArray} (sz : ∀ v, v < V → (R v).size = ((v + 1) * nb / V - v * nb / V) * C) (hL : ∀ v, v < V → L v = hd v ++ R v) (hpl : ∀ v, v < V → pl v = (hd v).size) (h : L' = L ∨ ∃ n u z, u < V ∧ u * nb / V ≤ n ∧ n < (u + 1) * nb / V ∧ z.size = C ∧ L' = updT L u (wBk (L u) (pl u + (n - u * nb / V) * C) z)) :
    ∃ R' : Nat → ByteArray, (∀ v, v < V → (R' v).size = ((v + 1) * nb / V - v * nb / V) * C) ∧ ∀ v, v < V → L' v = hd v ++ R' v := by
  rcases h with rfl | ⟨n, u, z, hu, h1, h2, hz, rfl⟩
  · exact ⟨R, sz, hL⟩
  · have hfit : (n - u * nb / V) * C + C ≤ (R u).size := by
      rw [sz u hu, ← Nat.succ_mul]
      exact Nat.mul_le_mul_right _ (by omega)
    refine ⟨updT R u (wBk (R u) ((n - u * nb / V) * C) z), fun v hv => ?_, fun v hv => ?_⟩
    · unfold updT
      by_cases e : v = u
      · subst e; rw [if_pos rfl, wBk_size (by rw [hz]; exact hfit)]; exact sz v hv
      · rw [if_neg e]; exact sz v hv
    · unfold updT
      by_cases e : v = u
      · subst e
        rw [if_pos rfl, if_pos rfl, hL v hv, hpl v hv, wBk_hd]
      · rw [if_neg e, if_neg e]; exact hL v hv
/-- cuts leave them in their ranges, and one volume at least -/
structure CI (V nb : Nat) (out : Nat → Bool) (cut : Nat → Nat) : Prop where
  lo : ∀ v, v < V → v * nb / V ≤ cut v
  hi : ∀ v, v < V → cut v ≤ (v + 1) * nb / V
  left : ∃ v, v < V ∧ out v = false
theorem CI.step {V nb : Nat} {out out' : Nat → Bool} {cut cut' : Nat → Nat} (h : CI V nb out cut) (hc : cut' = cut ∨ ∃ v f, v < V ∧ v * nb / V ≤ f ∧ f ≤ (v + 1) * nb / V ∧ cut' = updC cut v f) (ho : out' = out ∨ ∃ v, v < V ∧ (∃ u, u < V ∧ u ≠ v ∧ out u = false) ∧ out' = updB out v true) : CI V nb out' cut' := by
  refine ⟨fun v hv => ?_, fun v hv => ?_, ?_⟩
  · rcases hc with rfl | ⟨u, f, hu, h1, h2, rfl⟩
    · exact h.lo v hv
    · unfold updC; split
      · rename_i e; subst e; exact h1
      · exact h.lo v hv
  · rcases hc with rfl | ⟨u, f, hu, h1, h2, rfl⟩
    · exact h.hi v hv
    · unfold updC; split
      · rename_i e; subst e; exact h2
      · exact h.hi v hv
  · rcases ho with rfl | ⟨v, hv, ⟨u, hu, hne, hou⟩, rfl⟩
    · exact h.left
    · exact ⟨u, hu, by unfold updB; rw [if_neg hne]; exact hou⟩
end Go.Proofs.YtadinjaocnlglaaGreatDoor
