/-
  Plain: all volumes of a vault, in whatever order.
  The walk of vaultkeep's Ordered.
  The walk of vaultkeep.Packed.
-/
import Derived.Test.YtadinjaocnlglaaGreatDoorZ46
import Derived.Test.YtadinjaocnlglaaGreatDoorZ45
import Derived.Test.YtadinjaocnlglaaGreatDoorZ05
import Derived.Test.YtadinjaocnlglaaGreatDoorZ44
namespace Go.Proofs.YtadinjaocnlglaaGreatDoor
open Go.RowKit Go.Maps
set_option maxRecDepth 100000
set_option maxHeartbeats 1000000
theorem texL_mem {L : Nat → ByteArray} {n : Nat} {t : ByteArray} : t ∈ texL L n ↔ ∃ j, j < n ∧ L j = t := by
  unfold texL
  simp [List.mem_map]
theorem texL_nodup {L : Nat → ByteArray} {n : Nat} : (texL L n).Nodup ↔ ∀ j k, j < n → k < n → j ≠ k → L j ≠ L k := by
  unfold texL List.Nodup
  rw [List.pairwise_map]
  constructor
  · intro h j k hj hk hne
    rcases Nat.lt_or_gt_of_ne hne with h1 | h1
    · have := List.pairwise_iff_getElem.1 h j k (by simpa using hj) (by simpa using hk) h1
      simpa using this
    · have := List.pairwise_iff_getElem.1 h k j (by simpa using hk) (by simpa using hj) h1
      simpa using fun e => this (by simpa using e.symm)
  · intro h
    have h1 : (List.range n).Pairwise (fun i j => i < j) := List.pairwise_lt_range
    exact h1.imp_of_mem (fun {i j} hi hj hlt => h i j (List.mem_range.1 hi) (List.mem_range.1 hj) (by omega))
theorem perm_part {H L : Nat → ByteArray} {V : Nat} (hp : (texL H V).Perm (texL L V)) (hi : ∀ u v, u < V → v < V → u ≠ v → L u ≠ L v) : ∃ Nu : Nat → Nat, (∀ j, j < V → Nu j < V ∧ H j = L (Nu j)) ∧ (∀ j k, j < V → k < V → j ≠ k → Nu j ≠ Nu k) ∧ ∀ v, v < V → ∃ j, j < V ∧ Nu j = v := by
  have h1 : ∀ j, j < V → ∃ u, u < V ∧ L u = H j := fun j hj => texL_mem.1 (hp.mem_iff.1 (texL_mem.2 ⟨j, hj, rfl⟩))
  have hnd := texL_nodup.1 (hp.nodup_iff.2 (texL_nodup.2 hi))
  obtain ⟨Nu, hN⟩ : ∃ Nu : Nat → Nat, ∀ j, j < V → Nu j < V ∧ L (Nu j) = H j := ⟨fun j => if h : j < V then Classical.choose (h1 j h) else 0, fun j hj => by
    show (if h : j < V then Classical.choose (h1 j h) else 0) < V ∧ L (if h : j < V then Classical.choose (h1 j h) else 0) = H j
    rw [dif_pos hj]
    exact Classical.choose_spec (h1 j hj)⟩
  refine ⟨Nu, fun j hj => ⟨(hN j hj).1, (hN j hj).2.symm⟩, fun j k hj hk hne e => hnd j k hj hk hne (by rw [← (hN j hj).2, ← (hN k hk).2, e]), fun v hv => ?_⟩
  obtain ⟨j, hj, e⟩ := texL_mem.1 (hp.mem_iff.2 (texL_mem.2 ⟨v, hv, rfl⟩))
  refine ⟨j, hj, ?_⟩
  by_cases h : Nu j = v
  · exact h
  · exact absurd ((hN j hj).2.trans e) (hi _ _ (hN j hj).1 hv h)
theorem abF_all {rd : Nat → Bool} : ∀ n, (∀ i, i < n → rd i = true) → abF rd n = []
  | 0, _ => rfl
  | n + 1, h => by rw [abF, if_pos (h n (by omega)), abF_all n (fun i hi => h i (by omega))]
theorem badF_all {h : Nat → Bool} {o : Nat} : ∀ n, (∀ i, i < n → h i = true) → badF h o n = []
  | 0, _ => rfl
  | n + 1, hh => by rw [badF, if_pos (hh n (by omega)), badF_all n (fun i hi => hh i (by omega))]
theorem fsF_all {kt : Nat → Int} {T : TT} {bl : Nat → ByteArray} {c : Nat} : ∀ n, (∀ s, s < n → stF kt T bl s ≠ c) → fsF kt T bl c n = []
  | 0, _ => rfl
  | n + 1, h => by rw [fsF, if_neg (h n (by omega)), fsF_all n (fun i hi => h i (by omega))]
theorem baF_all {kt : Nat → Int} {T : TT} {bl : Nat → ByteArray} : ∀ n, (∀ s, s < n → stB kt T bl s = []) → baF kt T bl n = []
  | 0, _ => rfl
  | n + 1, h => by rw [baF, h n (by omega), baF_all n (fun i hi => h i (by omega))]; rfl
section
variable {kt : Nat → Int} {K M C V cnt : Nat} {es : List (ByteArray × Nat)} {s : ByteArray}
theorem VOk.rest (h : VOk K M C V cnt es s) {v : Nat} (hv : v < V) : (reE K M C V s v).size = ((v + 1) * cnt / V - v * cnt / V) * C ∧ ∀ i, i < (v + 1) * cnt / V - v * cnt / V → pc (reE K M C V s v) C i = bkT K M C s (v * cnt / V + i) := by
  have hnb : nbT K M C s = cnt := h.ct
  have hen : (v + 1) * cnt / V ≤ cnt := Nat.le_trans (Nat.div_le_div_right (Nat.mul_le_mul_right _ hv)) (by rw [Nat.mul_div_cancel_left _ h.lok.v1]; exact Nat.le_refl _)
  have hb : ∀ i, i < (v + 1) * cnt / V - v * cnt / V → (bkT K M C s (v * cnt / V + i)).size = C := fun i hi => h.bk (Nat.lt_of_lt_of_le (by omega : v * cnt / V + i < (v + 1) * cnt / V) hen)
  unfold reE
  rw [hnb]
  exact ⟨jT_eq _ C _ hb, fun i hi => pc_jT (F := fun i => bkT K M C s (v * cnt / V + i)) hb hi⟩
theorem VOk.inj (kt : Nat → Int) (h : VOk K M C V cnt es s) (R : Nat → ByteArray) : ∀ u v, u < V → v < V → u ≠ v → hdE kt K M C V es s u ++ R u ≠ hdE kt K M C V es s v ++ R v := fun u v hu hv hne e => by
  have e1 := (h.wrt kt hu (R u)).tld.num
  have e2 := (h.wrt kt hv (R v)).tld.num
  rw [e, e2] at e1
  exact hne e1.symm
/-- all blocks are there -/
theorem Part.all {L : Nat → ByteArray} {n : Nat} {Nu : Nat → Nat} (p : Part kt K M C V cnt es s L n Nu (fun j => reE K M C V s (Nu j))) (h : VOk K M C V cnt es s) (hs : ∀ v, v < V → ∃ j, j < n ∧ Nu j = v) {x : Nat} (hx : x < cnt) : blL L n x = bkT K M C s x := by
  obtain ⟨v, hv, h1, h2⟩ := in_range cnt V x V (by rw [Nat.mul_div_cancel_left _ h.lok.v1]; exact hx)
  obtain ⟨j, hj, e⟩ := hs v hv
  obtain ⟨r1, r2⟩ := h.rest hv
  have := p.bl h (j := j) (i := x - v * cnt / V) hj (by
    show _ < (reE K M C V s (Nu j)).size / C
    rw [e, r1, Nat.mul_div_cancel _ h.lok.c1]; omega)
  have this' : blL L n (Nu j * cnt / V + (x - v * cnt / V)) = pc (reE K M C V s (Nu j)) C (x - v * cnt / V) := this
  rw [e, r2 _ (by omega), show v * cnt / V + (x - v * cnt / V) = x by omega] at this'
  exact this'
/-- a vault of which all blocks are as they were written -/
theorem VOk.whole (h : VOk K M C V cnt es s) {T : TT} {v : Nat} {root lst : ByteArray} {l : List UInt8} (hT : Tld T K M C V v es root lst (lvE kt K M C s) l) {bl : Nat → ByteArray} (hb : ∀ x, x < cnt → bl x = bkT K M C s x) :
    ∀ st, st < nst (K * C) s.size → (∀ i, i < K + M → stH kt T bl st i = true) ∧ stF kt T bl st = 0 ∧ ∀ i, i < K + M → stM kt T bl st i = bkT K M C s (st * (K + M) + i) := fun st hst => by
  have hn : T.n = K + M := by unfold TT.n; rw [hT.K, hT.M]
  have hx : ∀ i, i < K + M → st * (K + M) + i < cnt := fun i hi => by
    have h1 : (st + 1) * (K + M) ≤ nst (K * C) s.size * (K + M) := Nat.mul_le_mul_right _ hst
    rw [h.ct, Nat.succ_mul] at h1
    omega
  have hH : ∀ i, i < K + M → stH kt T bl st i = true := fun i hi => by
    unfold stH
    rw [hn, hT.C, hT.lv, hb _ (hx i hi)]
    unfold goodB
    rw [lv_pc kt K M C s (by unfold nbT; rw [h.ct]; exact hx i hi)]
    exact decide_eq_true ⟨h.bk (hx i hi), rfl⟩
  refine ⟨hH, h.stripe hT hst (fun i hi _ => hb _ (hx i hi)) ?_⟩
  rw [cnt_same _ (fun _ => true) (K + M) hH, cnt_all]
  omega
/-- what Repair makes of it -/
theorem VOk.remade (h : VOk K M C V cnt es s) {T : TT} {v : Nat} {root lst : ByteArray} {l : List UInt8} (hT : Tld T K M C V v es root lst (lvE kt K M C s) l) {A : Nat → ByteArray} (hA : ∀ x, x < cnt → A x = bkT K M C s x) {u : Nat} (hu : u < V) : reV kt T A u = hdE kt K M C V es s u ++ reE K M C V s u := by
  have hc : T.L.cnt = nbT K M C s := by unfold LT.cnt nbT; rw [hT.K, hT.M, hT.C, hT.es, ← h.len]
  have hnb : nbT K M C s = cnt := h.ct
  rw [reV_congr (B := bkT K M C s) (fun x hx => hA x (by rw [← hnb, ← hc]; exact hx)) (by rw [hT.V]; exact h.lok.v1) (by rw [hT.V]; exact hu)]
  unfold reV
  have hl : T.ls = lsE K M C V es := by unfold TT.ls lsE; rw [hT.K, hT.M, hT.C, hT.V, hT.es]
  rw [hl, hc, hT.V]
  rfl
end
/-- all that is true of volumes in any order that were opened -/
structure Pkd (kt : Nat → Int) (F : Nat → Ob) (q K M C V : Nat) (H : Nat → ByteArray) (s : OS) (t0 : ByteArray) : Prop where
  un : s.un = []
  T : ∃ v l, Tld (tT t0) K M C V v (esF F q) (rtE kt K M C V (esF F q) (smF F q)) (lsE K M C V (esF F q)) (lvE kt K M C (smF F q)) l
  ns : (tT t0).L.ns = nst (K * C) (smF F q).size
  whole : wholeB kt (tT t0) s.un s.rd s.bl = true
  st : ∀ i, i < (tT t0).L.ns → stF kt (tT t0) s.bl i = 0
  obj : ∀ j, j < q → unO kt (tT t0) s.bl j = F j
  re : ∀ dn : Nat → Bool, (∀ i, i < (tT t0).L.ns → dn i = true) → ∀ v, v < V → reV kt (tT t0) (blD kt (tT t0) s.bl dn) v = voT kt K M C V (datOf F q) (nmF F q) v
theorem packed_plain {kt : Nat → Int} {F : Nat → Ob} {q K M C V : Nat} (hS : Srt q F) (hK1 : 1 ≤ K) (hK2 : K ≤ 5) (hM : M ≤ 3) (hC1 : 1 ≤ C) (hC2 : C ≤ 8) (hV1 : 1 ≤ V) (hV2 : V ≤ 5) (hq : q ≤ 5) {H : Nat → ByteArray} (hp : (texL H V).Perm (texL (voT kt K M C V (datOf F q) (nmF F q)) V)) {rt : ByteArray} (hrt : rt = ⟨#[]⟩ ∨ rt = rtT kt K M C V (datOf F q) (nmF F q)) :
    (∃ s t0, Opn kt rt H V s t0) ∧ ∀ s t0, Opn kt rt H V s t0 → Pkd kt F q K M C V H s t0 := by
  have h := srt_ok hS hK1 hK2 hM hC1 hC2 hV1 hV2 hq
  rw [rt_eq hS] at hrt
  have hL : ∀ v, voT kt K M C V (datOf F q) (nmF F q) v = hdE kt K M C V (esF F q) (smF F q) v ++ reE K M C V (smF F q) v := fun v => vo_eq hS kt K M C V v
  obtain ⟨Nu, n1, n2, n3⟩ := perm_part hp (fun u v hu hv hne => by rw [hL, hL]; exact h.inj kt (reE K M C V (smF F q)) u v hu hv hne)
  have p : Part kt K M C V (nbT K M C (smF F q)) (esF F q) (smF F q) H V Nu (fun j => reE K M C V (smF F q) (Nu j)) :=
    ⟨fun j hj => by rw [(n1 j hj).2]; exact hL _, fun j hj => (n1 j hj).1, fun j hj => Nat.le_of_eq (h.rest (n1 j hj).1).1, n2⟩
  have hG := p.good h hrt
  have hrun := good_run V hG
  have hsz : rt.size = 0 ∨ rt.size = 32 := by
    rcases hrt with e | e
    · left; rw [e]; rfl
    · right; rw [e]; exact ofT_size _ _
  refine ⟨⟨stO H V, H 0, hsz, hrun, by unfold stO; rw [if_neg (by omega)]⟩, ?_⟩
  rintro s t0 ⟨_, hr, hh⟩
  rw [hrun] at hr
  obtain rfl : stO H V = s := Except.ok.inj hr
  obtain rfl : H 0 = t0 := by unfold stO at hh; rw [if_neg (by omega)] at hh; exact Option.some.inj hh
  have hT := p.tld h (j := 0) (by omega)
  have hbl : ∀ x, x < nbT K M C (smF F q) → blL H V x = bkT K M C (smF F q) x := fun x hx => p.all h n3 hx
  have hns : (tT (H 0)).L.ns = nst (K * C) (smF F q).size := by
    have hT' : Tld (tT (H 0)) K M C V (Nu 0) (esF F q) _ _ _ _ := hT
    unfold LT.ns; rw [hT'.K, hT'.C, hT'.es, h.len]
  have hw := fun st hst => h.whole (kt := kt) (T := tT (H 0)) hT hbl st hst
  have hn : (tT (H 0)).n = K + M := by
    have hT' : Tld (tT (H 0)) K M C V (Nu 0) (esF F q) _ _ _ _ := hT
    unfold TT.n; rw [hT'.K, hT'.M]
  have hV : (tT (H 0)).L.V = V := hT.V
  have hK : (tT (H 0)).L.K = K := hT.K
  have hM' : (tT (H 0)).L.M = M := hT.M
  have hst0 : ∀ i, i < (tT (H 0)).L.ns → stF kt (tT (H 0)) (blL H V) i = 0 := fun i hi => (hw i (by rw [← hns]; exact hi)).2.1
  refine ⟨rfl, ⟨_, _, hT⟩, hns, ?_, hst0, fun j hj => ?_, fun dn hd v hv => ?_⟩
  · refine decide_eq_true ⟨rfl, ?_, ?_, ?_, ?_⟩
    · show (abF (rdL H V) (tT (H 0)).L.V).length = 0
      rw [abF_all _ (fun i hi => (rdL_iff H V i).2 ?_)]
      · rfl
      · obtain ⟨j, hj, e⟩ := n3 i (by rw [← hV]; exact hi)
        exact ⟨j, hj, by rw [← e]; exact (p.tld h hj).num⟩
    · show (baF kt (tT (H 0)) (blL H V) (tT (H 0)).L.ns).length = 0
      rw [baF_all _ (fun st hst => ?_)]
      · rfl
      · unfold stB
        rw [hn]
        exact badF_all _ (hw st (by rw [← hns]; exact hst)).1
    · show (fsF kt (tT (H 0)) (blL H V) 1 (tT (H 0)).L.ns).length = 0
      rw [fsF_all _ (fun st hst => by
        have : stF kt (tT (H 0)) (blL H V) st = 0 := hst0 st hst
        show stF kt (tT (H 0)) (blL H V) st ≠ 1
        omega)]
      rfl
    · show (fsF kt (tT (H 0)) (blL H V) 2 (tT (H 0)).L.ns).length = 0
      rw [fsF_all _ (fun st hst => by
        have : stF kt (tT (H 0)) (blL H V) st = 0 := hst0 st hst
        show stF kt (tT (H 0)) (blL H V) st ≠ 2
        omega)]
      rfl
  · refine un_one hj hT.es (fun x h1 h2 => ?_)
    have hlen : lenE ((esF F q).take j) + (F j).2.size ≤ (smF F q).size := by
      have e := take_len (esF F q) j (by rw [esF_len]; exact hj)
      rw [(esF_get F q j hj).2] at e
      rw [sm_size, ← e]
      exact lenE_take_le _ _
    have hx : x / (K * C) < nst (K * C) (smF F q).size := by
      rw [Nat.div_lt_iff_lt_mul h.z]
      exact Nat.lt_of_lt_of_le (Nat.lt_of_lt_of_le h2 hlen) (nst_le _ _ h.z)
    exact h.byte (T := tT (H 0)) hT hx (fun i hi => (hw _ hx).2.2 i (by omega))
  · rw [hL v]
    refine h.remade (T := tT (H 0)) hT (fun x hx => ?_) hv
    have hx' : x < (tT (H 0)).L.cnt := by rw [p.ct h (by omega)]; exact hx
    have hn0 : 0 < (tT (H 0)).n := by rw [hn]; exact h.n
    obtain ⟨e1, e2⟩ := blD_all (kt := kt) (bl := blL H V) hn0 hd hst0 hx'
    have e3 : blD kt (tT (H 0)) (blL H V) dn x = bkT K M C (smF F q) x := by
      rw [e1, (hw _ (by rw [← hns]; exact e2)).2.2 _ (by rw [← hn]; exact Nat.mod_lt _ hn0), hn]
      congr 1
      rw [Nat.mul_comm]; exact Nat.div_add_mod x _
    exact e3
end Go.Proofs.YtadinjaocnlglaaGreatDoor
namespace Go.Proofs.YtadinjaocnlglaaGreatDoor
open Go.RowKit
set_option maxRecDepth 100000
set_option maxHeartbeats 2000000
theorem Ints.below {w w' : World} {a : Option Addr} {n : Nat} (h : Ints w a n) (hb : Below w.heap.size w w') : Ints w' a n := fun i hi => by
  obtain ⟨b, off, x, h1, h2, h3, h4⟩ := h i hi
  exact ⟨b, off, x, h1, Nat.lt_of_lt_of_le h2 hb.size, (hb.cell (p := ⟨b, off + i, none⟩) h2).trans h3, h4⟩
end Go.Proofs.YtadinjaocnlglaaGreatDoor
namespace Go.Proofs.YtadinjaocnlglaaGreatDoor
open Go.RowKit
set_option maxRecDepth 100000
set_option maxHeartbeats 4000000
def Q3 (q f v j : Nat) : Prop := j = q ∨ j = f ∨ j = v
theorem own_hi {w w' : World} {base e size n q f v : Nat} {val : Value} {xs : List Value} (h : w.ownsRow base e size val n xs) (hF : Fr (Q3 q f v) w w') (hq : q < base) (hf : f < base) (hv : v < base) : w'.ownsRow base e size val n xs :=
  own_kept h (fun r hr => hF.old r (own_lt h r hr) (fun e => by
    have := own_ge h r hr
    rcases e with e | e | e <;> omega))
theorem obj_hi {w w' : World} {g q f v : Nat} {o : Obj} (h : w.heap[g]? = some o) (hF : Fr (Q3 q f v) w w') (hq : q < g) (hf : f < g) (hv : v < g) : w'.heap[g]? = some o := by
  rw [hF.old g (Array.getElem?_eq_some_iff.1 h).1 (fun e => by rcases e with e | e | e <;> omega)]
  exact h
theorem VK.below {kt : Nat → Int} {B v k g p q f : Nat} {T : TT} {un : Value} {ul : List Nat} {rd : Nat → Bool} {bl : Nat → ByteArray} {w w' : World} (h : VK kt B v k g p q f T un ul rd bl w) (hb : Below w.heap.size w w') : VK kt B v k g p q f T un ul rd bl w' := by
  obtain ⟨hv, dn, zs, bd, hs⟩ := h
  refine ⟨?_, dn, zs, bd, hs.below hb⟩
  have hl : v < w.heap.size := (Array.getElem?_eq_some_iff.1 hv).1
  unfold VL at hv ⊢
  rw [hb.block v hl]; exact hv
theorem VK.lt {kt : Nat → Int} {B v k g p q f : Nat} {T : TT} {un : Value} {ul : List Nat} {rd : Nat → Bool} {bl : Nat → ByteArray} {w : World} (h : VK kt B v k g p q f T un ul rd bl w) : q < w.heap.size ∧ f < w.heap.size ∧ v < w.heap.size := by
  obtain ⟨hv, dn, zs, bd, hs⟩ := h
  exact ⟨hs.blR.lt, hs.fiR.lt, (Array.getElem?_eq_some_iff.1 hv).1⟩
theorem enF_cells {w : World} {B q : Nat} {v : Value} {F : Nat → Ob} (h : w.ownsRow B 70 2 v q (enV (esF F q))) : ∃ a c, v = .slice a q c ∧ ∀ i, i < q → ∃ g, a = some ⟨g, 0, none⟩ ∧ w.cell? ⟨g, i * 2, none⟩ = some (.string (F i).1) ∧ w.cell? ⟨g, i * 2 + 1, none⟩ = some (.int .i64 ((F i).2.size : Nat)) := by
  obtain ⟨a, c, rfl⟩ := own_shape h
  refine ⟨a, c, rfl, fun i hi => ?_⟩
  obtain ⟨g, e, _, c1, c2⟩ := ent_cellsE (es := esF F q) (esF_len F q).symm h i hi
  obtain ⟨e1, e2⟩ := esF_get F q i hi
  rw [e1] at c1
  rw [e2] at c2
  exact ⟨g, e, c1, c2⟩
theorem packedL_false (kt : Nat → Int) (k m c v : Int) (xa aa ba : Option Addr) (nx xc na ac nb bc : Nat) (w : World) (k0 : -9223372036854775808 ≤ k) (k1 : k ≤ 9223372036854775807) (m0 : -9223372036854775808 ≤ m) (m1 : m ≤ 9223372036854775807) (c0 : -9223372036854775808 ≤ c) (c1 : c ≤ 9223372036854775807) (v0 : -9223372036854775808 ≤ v) (v1 : v ≤ 9223372036854775807)
    (hnx : nx ≤ 140737488355328) (hX : Raw w xa nx) (hA : Ints w aa na) (hB : Ints w ba nb) (hG : Gd kt w) :
    Calls Tryz.prog 7 #[.agg #[.int .i64 k, .int .i64 m, .int .i64 c, .int .i64 v], .slice xa nx xc, .slice aa na ac, .slice ba nb bc, .bool false] w fun e w' => e = .returned (.bool true) ∧ Below w.heap.size w w' := by
  have H4 : Hid (∀ W, _) := fun W => params_any k m c v W k0 k1 m0 m1 c0 c1 v0 v1
  have hK := pk_lt k 5 (by omega)
  have hM := pk_lt m 4 (by omega)
  have hC := pk_lt c 8 (by omega)
  have hV := pk_lt v 5 (by omega)
  obtain ⟨K, eK⟩ : ∃ K, 1 + pk k 5 = K := ⟨_, rfl⟩
  obtain ⟨M, eM⟩ : ∃ M, pk m 4 = M := ⟨_, rfl⟩
  obtain ⟨C, eC⟩ : ∃ C, 1 + pk c 8 = C := ⟨_, rfl⟩
  obtain ⟨V, eV⟩ : ∃ V, 1 + pk v 5 = V := ⟨_, rfl⟩
  rw [eK, eM, eC, eV] at H4
  have hK1 : 1 ≤ K := by omega
  have hK2 : K ≤ 5 := by omega
  have hM1 : M ≤ 3 := by omega
  have hC1 : 1 ≤ C := by omega
  have hC2 : C ≤ 8 := by omega
  have hV1 : 1 ≤ V := by omega
  have hV2 : V ≤ 5 := by omega
  have HX : Hid (Raw w xa nx) := hX
  have HA : Hid (Ints w aa na) := hA
  have HB : Hid (Ints w ba nb) := hB
  have HG : Hid (Gd kt w) := hG
  have hw4 := hG.one
  clear eK eM eC eV hK hM hC hV k0 k1 m0 m1 c0 c1 v0 v1 hX hA hB hG
  unfold pV at H4
  go_enter Tryz.func7, Tryz.ntmps7
  go_wp2_with fail
  refine Calls.mono (H4.out _) ?_
  rintro e s1 ⟨rfl, hb1⟩
  have HB1 : Hid (Below w.heap.size w s1) := by
    have h0 : Below w.heap.size w (w.alloc (Obj.cells #[Value.int IntKind.i64 k, Value.int IntKind.i64 m, Value.int IntKind.i64 c, Value.int IntKind.i64 v] 23)) := (Below.refl _ _).alloc (Nat.le_refl _) _
    exact h0.trans (hb1.mono h0.size)
  clear hb1 H4
  go_wp2_with fail
  obtain ⟨s2, hs2⟩ : ∃ s2, s1.alloc (Obj.cells #[Value.int IntKind.i64 K, Value.int IntKind.i64 M, Value.int IntKind.i64 C, Value.int IntKind.i64 V] 23) = s2 := ⟨_, rfl⟩
  have HP2 : Hid (s2.heap[s1.heap.size]? = some (.cells #[.int .i64 K, .int .i64 M, .int .i64 C, .int .i64 V] 23 (0, 0))) := by show _ = _; rw [← hs2]; exact heap_alloc_new _ _
  have HB2 : Hid (Below w.heap.size w s2) := by show Below _ _ _; rw [← hs2]; exact HB1.out.alloc HB1.out.size _
  have hpl : s1.heap.size < s2.heap.size := by rw [← hs2]; simp
  rw [hs2]
  obtain ⟨pb, hpb⟩ : ∃ pb, s1.heap.size = pb := ⟨_, rfl⟩
  rw [hpb] at HP2 hpl ⊢
  clear hs2 hpb HB1
  refine (objects_any xa nx xc s2 hnx (HX.out.below HB2.out)).mono ?_
  rintro e s3 ⟨vl, q0, F, rfl, hO3, hq, hS, hb3⟩
  obtain ⟨la, lc, hvl⟩ := own_shape hO3
  subst hvl
  have HO3 : Hid (OwnF s3 s2.heap.size (.slice la q0 lc) q0 F) := hO3
  have HS : Hid (Srt q0 F) := hS
  have HB3 : Hid (Below w.heap.size w s3) := HB2.out.trans (hb3.mono HB2.out.size)
  have HP3 : Hid (s3.heap[pb]? = some (.cells #[.int .i64 K, .int .i64 M, .int .i64 C, .int .i64 V] 23 (0, 0))) := by show _ = _; rw [hb3.block pb hpl]; exact HP2.out
  clear hO3 hS hb3 HP2 HB2
  have p0 : s3.cell? ⟨pb, 0, none⟩ = some (.int .i64 K) := cell_of_row _ _ _ _ 23 _ HP3.out
  have p1 : s3.cell? ⟨pb, 1, none⟩ = some (.int .i64 M) := cell_of_row _ _ _ _ 23 _ HP3.out
  have p2 : s3.cell? ⟨pb, 2, none⟩ = some (.int .i64 C) := cell_of_row _ _ _ _ 23 _ HP3.out
  have p3 : s3.cell? ⟨pb, 3, none⟩ = some (.int .i64 V) := cell_of_row _ _ _ _ 23 _ HP3.out
  have H6 : Hid _ := packed_any kt K M C V q0 lc na ac s2.heap.size la aa F s3 hK1 hK2 hM1 hC1 hC2 hV1 hV2 hq HO3.out HS.out (HA.out.below HB3.out) (HG.out.below HB3.out)
  unfold pV at H6
  obtain ⟨R, hR⟩ : ∃ R, rtT kt K M C V (datOf F q0) (nmF F q0) = R := ⟨_, rfl⟩
  obtain ⟨VO, hVO⟩ : ∃ VO, voT kt K M C V (datOf F q0) (nmF F q0) = VO := ⟨_, rfl⟩
  rw [hR, hVO] at H6
  have HRE : Hid _ := hR
  have HVO : Hid _ := hVO
  clear hR hVO
  go_wp2_with fail
  refine Calls.mono H6.out ?_
  rintro e s4 ⟨g4, rfl, h41, h42, h43⟩
  have hpl3 : pb < s3.heap.size := (Array.getElem?_eq_some_iff.1 HP3.out).1
  have HP4 : Hid (s4.heap[pb]? = some (.cells #[.int .i64 K, .int .i64 M, .int .i64 C, .int .i64 V] 23 (0, 0))) := by show _ = _; rw [h43.block pb hpl3]; exact HP3.out
  have HO4 : Hid (OwnF s4 s2.heap.size (.slice la q0 lc) q0 F) := HO3.out.low (fun r hr => own_lt HO3.out r hr) h43
  have HB4 : Hid (Below w.heap.size w s4) := HB3.out.trans (h43.mono HB3.out.size)
  have HR4 : Hid (Rw s4 g4 V 9 (tX VO)) := h42
  have HMX : Hid _ := mixed_any VO (some ⟨g4, 0, none⟩) ba V V nb bc s4 (by omega) hV1 (.inr ⟨_, rfl, fun i hi => ⟨g4, 0, rfl, h42.lt, by rw [Nat.zero_add]; exact h42.cell i hi⟩⟩) (HB.out.below HB4.out)
  clear h41 h42 h43 p0 p1 p2 p3 HP3 HO3 HB3 H6
  go_wp2_with fail
  refine Calls.mono HMX.out ?_
  rintro e s5 ⟨v5, Hm, rfl, hO5, hperm, hb5⟩
  obtain ⟨g5, cap5, rfl, hg5, hg5l, hC5⟩ := own_row9 hO5 hV1
  have hpl4 : pb < s4.heap.size := (Array.getElem?_eq_some_iff.1 HP4.out).1
  have HP5 : Hid (s5.heap[pb]? = some (.cells #[.int .i64 K, .int .i64 M, .int .i64 C, .int .i64 V] 23 (0, 0))) := by show _ = _; rw [hb5.block pb hpl4]; exact HP4.out
  have HO5 : Hid (OwnF s5 s2.heap.size (.slice la q0 lc) q0 F) := HO4.out.low (fun r hr => own_lt HO4.out r hr) hb5
  have HB5 : Hid (Below w.heap.size w s5) := HB4.out.trans (hb5.mono HB4.out.size)
  have hg4l : g4 < s4.heap.size := HR4.out.lt
  have HR5 : Hid (Rw s5 g4 V 9 (tX VO)) := by show _ = _; rw [hb5.block g4 hg4l]; exact HR4.out
  have hrt : (⟨#[]⟩ : ByteArray) = ⟨#[]⟩ ∨ (⟨#[]⟩ : ByteArray) = rtT kt K M C V (datOf F q0) (nmF F q0) := .inl rfl
  obtain ⟨hex, hall⟩ := packed_plain (kt := kt) HS.out hK1 hK2 hM1 hC1 hC2 hV1 hV2 hq (H := Hm) (rt := (⟨#[]⟩ : ByteArray)) (by rw [HVO.out]; exact hperm) hrt
  have hsz : ∀ i, i < V → (Hm i).size ≤ 140737488351232 := fun i hi => by
    obtain ⟨s, t0, _, hrun, _⟩ := hex
    have hP := hall s t0 ⟨‹_›, hrun, ‹_›⟩
    have := (run_good V s hrun hP.un).1 i hi
    have h2 := rd_none (same3_L this.1 this.1 ⟨rfl, rfl, rfl⟩).2.1
    omega
  have HEX : Hid _ := hex
  have HALL : Hid _ := hall
  have HOP : Hid _ := opened_any kt (⟨#[]⟩ : ByteArray) Hm (some ⟨g5, 0, none⟩) V cap5 s5 (HG.out.below HB5.out) (by omega) hsz (.inr ⟨_, rfl, fun i hi => ⟨g5, 0, rfl, hg5l, by rw [Nat.zero_add]; exact hC5 i hi⟩⟩)
  clear hO5 hperm hb5 hg5 hg5l hC5 hrt hex hall hsz HP4 HO4 HB4 HR4 HMX
  go_wp2_with fail
  refine Calls.mono HOP.out ?_
  rintro e s6 ⟨hB6, ⟨rfl, hno⟩ | ⟨B, vb, rfl, hBl, hBu, s, t0, kb, g, p, q, f, un, hop, hr0, hBv, ⟨hBq, hBf⟩, hVL, hVS⟩⟩
  · obtain ⟨s, t0, h⟩ := HEX.out
    exact absurd h (hno s t0)
  have hPk := HALL.out s t0 hop
  have hT : Told1 (tT t0) := ck_ok (rd_none hr0).2.1
  have hle := told_len (RS.on t0)
  obtain ⟨T, hTe⟩ : ∃ T, tT t0 = T := ⟨_, rfl⟩
  obtain ⟨vT, lT, hTl⟩ := hPk.T
  have hun := hPk.un
  have hwb := hPk.whole
  have hst := hPk.st
  have hob := hPk.obj
  have hre := hPk.re
  have hns := hPk.ns
  have hnm := told_nm (RS.on t0)
  have hle' : (tT t0).L.es.length ≤ 16 ∧ lenE (tT t0).L.es ≤ 4096 := hle
  have hnm' : ∀ x ∈ (tT t0).L.es, x.1.size ≤ 255 := hnm
  have hVS' : VS kt B kb g p q f (tT t0) un s.un s.rd s.bl (fun _ => false) (fun _ => 0) (fun _ => .slice none 0 0) s6 := hVS
  rw [hTe] at hTl hwb hst hob hre hns hle' hnm' hT hVS'
  rw [hun] at hwb hVS'
  rw [HVO.out] at hre
  have hsz5 := HB5.out.size
  have HK6 : Hid (VK kt B vb kb g p q f T un [] s.rd s.bl s6) := ⟨hVL, _, _, _, hVS'⟩
  have hlt6 := HK6.out.lt
  have HF6 : Hid (Below s5.heap.size s5 s6) := hB6
  have HTL : Hid _ := hTl
  have HWB : Hid _ := hwb
  have HST : Hid _ := hst
  have HOB : Hid _ := hob
  have HRV : Hid _ := hre
  have HLE : Hid _ := hle'
  have HNM : Hid _ := hnm'
  have HT : Hid _ := hT
  clear hPk hT hle hTe hTl hun hwb hst hob hre hns hnm hle' hnm' hVS hVS' hVL hop hr0 hB6 HEX HALL HOP
  have HQ : Hid (Fr (Q3 q f vb) s6 s6) := Fr.refl _ _
  go_wp2_with fail
  refine Calls.mono (vparams kt B vb kb g p q f T un [] s.rd s.bl s6 HK6.out) ?_
  rintro e s7 ⟨rfl, hK7, hF7⟩
  have eK : T.L.K = K := HTL.out.K
  have eM : T.L.M = M := HTL.out.M
  have eC : T.L.C = C := HTL.out.C
  have eV : T.L.V = V := HTL.out.V
  rw [eK, eM, eC, eV]
  clear eK eM eC eV
  go_wp2_with fail
  obtain ⟨s8, hs8⟩ : ∃ s8, s7.alloc (Obj.cells #[Value.int IntKind.i64 K, Value.int IntKind.i64 M, Value.int IntKind.i64 C, Value.int IntKind.i64 V] 23) = s8 := ⟨_, rfl⟩
  have hb8 : Below s7.heap.size s7 s8 := by rw [← hs8]; exact (Below.refl _ _).alloc (Nat.le_refl _) _
  have HP8 : Hid (s8.heap[s7.heap.size]? = some (.cells #[.int .i64 K, .int .i64 M, .int .i64 C, .int .i64 V] 23 (0, 0))) := by show _ = _; rw [← hs8]; exact heap_alloc_new _ _
  have HK8 : Hid (VK kt B vb kb g p q f T un [] s.rd s.bl s8) := hK7.below hb8
  have HQ8 : Hid (Fr (Q3 q f vb) s6 s8) := Fr.thenBelow hF7 hb8
  have hpb6 : s6.heap.size ≤ s7.heap.size := hF7.size
  rw [hs8]
  obtain ⟨pq, hpq⟩ : ∃ pq, s7.heap.size = pq := ⟨_, rfl⟩
  rw [hpq] at HP8 hpb6 ⊢
  clear hK7 hF7 hs8 hb8 hpq HK6 HQ
  refine (vroot kt B vb kb g p q f T un [] s.rd s.bl s8 HK8.out).mono ?_
  rintro e s9 ⟨rfl, hK9, hF9⟩
  have eR : T.root = R := HTL.out.root.trans ((rt_eq HS.out kt K M C V).symm.trans HRE.out)
  rw [eR]
  have HK9 : Hid (VK kt B vb kb g p q f T un [] s.rd s.bl s9) := hK9
  have HQ9 : Hid (Fr (Q3 q f vb) s6 s9) := HQ8.out.trans' hF9
  have HP9 : Hid _ := obj_hi HP8.out hF9 (by omega) (by omega) (by omega)
  clear hK9 hF9 HK8 HQ8 HP8 eR
  go_wp2_with fail
  refine Calls.mono (vobjects kt B vb kb g p q f T un [] s.rd s.bl s9 HK9.out HLE.out.1) ?_
  rintro e s10 ⟨vo, rfl, hK10, hF10, hE10⟩
  have eS : T.L.es = esF F q0 := HTL.out.es
  rw [eS, esF_len] at hE10
  have h69 := HQ9.out.size
  have HK10 : Hid (VK kt B vb kb g p q f T un [] s.rd s.bl s10) := hK10
  have HQ10 : Hid (Fr (Q3 q f vb) s6 s10) := HQ9.out.trans' hF10
  have HP10 : Hid _ := obj_hi HP9.out hF10 (by omega) (by omega) (by omega)
  have HE10 : Hid (s10.ownsRow s9.heap.size 70 2 vo q0 (enV (esF F q0))) := hE10
  clear hK10 hF10 hE10 HK9 HP9 eS
  go_wp2_with fail
  obtain ⟨hv10, dn, zs, bd, hs10⟩ := HK10.out
  refine Calls.mono (kwhole_any kt B vb kb g p q f T un [] s.rd s.bl dn zs bd s10 hv10 hs10 HT.out HLE.out (by simp) (HG.out.below (HB5.out.trans ((HF6.out.mono HB5.out.size).trans (HQ10.out.lowB w.heap.size (Nat.le_trans HB5.out.size HF6.out.size) (fun j hj e => by rcases e with e | e | e <;> omega))))) (Nat.le_trans hBu HQ10.out.size) (by omega)) ?_
  rintro e s11 ⟨rfl, hv11, ⟨zs', bd', hs11⟩, hF11⟩
  rw [HWB.out]
  have HK11 : Hid (VK kt B vb kb g p q f T un [] s.rd s.bl s11) := ⟨hv11, _, _, _, hs11⟩
  have HQ11 : Hid (Fr (Q3 q f vb) s6 s11) := HQ10.out.trans' hF11
  have HP11 : Hid _ := obj_hi HP10.out hF11 (by omega) (by omega) (by omega)
  have HE11 : Hid _ := own_hi HE10.out hF11 (by omega) (by omega) (by omega)
  clear hv10 hs10 hv11 hs11 hF11 HK10 HQ10 HP10 HE10
  go_wp2_with fail
  refine Calls.mono (vunpack_ok kt B vb kb g p q f T un [] s.rd s.bl s11 HK11.out HT.out HLE.out (HG.out.below (HB5.out.trans ((HF6.out.mono HB5.out.size).trans (HQ11.out.lowB w.heap.size (Nat.le_trans HB5.out.size HF6.out.size) (fun j hj e => by rcases e with e | e | e <;> omega))))) (Nat.le_trans hBu HQ11.out.size) (by omega) HST.out) ?_
  rintro e s12 ⟨vu, rfl, hK12, hF12, hO12⟩
  have eS : T.L.es = esF F q0 := HTL.out.es
  rw [eS, esF_len] at hO12
  have h611 := HQ11.out.size
  have HK12 : Hid (VK kt B vb kb g p q f T un [] s.rd s.bl s12) := hK12
  have HQ12 : Hid (Fr (Q3 q f vb) s6 s12) := HQ11.out.trans' hF12
  have HP12 : Hid _ := obj_hi HP11.out hF12 (by omega) (by omega) (by omega)
  have HE12 : Hid _ := own_hi HE11.out hF12 (by omega) (by omega) (by omega)
  have HU12 : Hid (s12.ownsRow s11.heap.size 72 2 vu q0 (objF (unO kt T s.bl) q0)) := hO12
  clear hK12 hF12 hO12 HK11 HQ11 HP11 HE11 eS
  go_wp2_with fail
  obtain ⟨hv12, dn, zs, bd, hs12⟩ := HK12.out
  refine Calls.mono (vrepair_ok kt B vb kb g p q f T un [] s.rd s.bl dn zs bd s12 hv12 hs12 HT.out HLE.out HNM.out (HG.out.below (HB5.out.trans ((HF6.out.mono HB5.out.size).trans (HQ12.out.lowB w.heap.size (Nat.le_trans HB5.out.size HF6.out.size) (fun j hj e => by rcases e with e | e | e <;> omega))))) (Nat.le_trans hBu HQ12.out.size) (by omega) HST.out) ?_
  rintro e s13 ⟨gv, rfl, hgv, hR13, hF13⟩
  have eV : T.L.V = V := HTL.out.V
  rw [eV] at hR13 ⊢
  have h612 := HQ12.out.size
  have HR13 : Hid (Rw s13 gv V 9 (tX VO)) := hR13.to (fun j hj => by unfold tX; rw [HRV.out _ (fun st hst => by simp [dnS, hst]) j hj])
  have HQ13 : Hid (Fr (Q3 q f vb) s6 s13) := HQ12.out.trans' hF13
  have HP13 : Hid _ := obj_hi HP12.out hF13 (by omega) (by omega) (by omega)
  have HE13 : Hid _ := own_hi HE12.out hF13 (by omega) (by omega) (by omega)
  have HU13 : Hid _ := own_hi HU12.out hF13 (by omega) (by omega) (by omega)
  have HB13 : Hid (Below s5.heap.size s5 s13) := HF6.out.trans (HQ13.out.lowB s5.heap.size HF6.out.size (fun j hj e => by rcases e with e | e | e <;> omega))
  clear hv12 hs12 hR13 hF13 HK12 HQ12 HP12 HE12 HU12 eV
  have HL13 : Hid (OwnF s13 s2.heap.size (.slice la q0 lc) q0 F) := HO5.out.low (fun r hr => own_lt HO5.out r hr) HB13.out
  obtain ⟨ua, uc, rfl, hUc⟩ := OwnF.cells (F := unO kt T s.bl) HU13.out
  obtain ⟨la', lc', hle, hLc⟩ := OwnF.cells HL13.out
  obtain ⟨rfl, rfl⟩ : la = la' ∧ lc = lc' := by simpa using hle
  have HSO : Hid _ := sameO_any (unO kt T s.bl) F q0 uc lc ua la s13 (by omega) hUc hLc HOB.out
  clear hUc hLc hle
  go_wp2_with fail
  refine Calls.mono HSO.out ?_
  rintro e s14 ⟨rfl, hb14⟩
  have hgvl : gv < s13.heap.size := HR13.out.lt
  have hg4l' : g4 < s5.heap.size := HR5.out.lt
  have HR14 : Hid (Rw s14 gv V 9 (tX VO)) := by show _ = _; rw [hb14.block gv hgvl]; exact HR13.out
  have HG14 : Hid (Rw s14 g4 V 9 (tX VO)) := by show _ = _; rw [hb14.block g4 (Nat.lt_of_lt_of_le hg4l' HB13.out.size), HB13.out.block g4 hg4l']; exact HR5.out
  have HST2 : Hid _ := same_any VO VO V gv V g4 V s14 (by omega) HR14.out.cl HG14.out.cl (fun i _ => rfl)
  have HB14 : Hid _ := hb14
  clear hb14
  go_wp2_with fail
  refine Calls.mono HST2.out ?_
  rintro e s15 ⟨rfl, hb15⟩
  have hB1315 : Below s13.heap.size s13 s15 := HB14.out.trans (hb15.mono HB14.out.size)
  have hB515 : Below s5.heap.size s5 s15 := HB13.out.trans (hB1315.mono HB13.out.size)
  have HB15 : Hid (Below w.heap.size w s15) := HB5.out.trans (hB515.mono HB5.out.size)
  have HPB : Hid (s15.heap[pb]? = some (.cells #[.int .i64 K, .int .i64 M, .int .i64 C, .int .i64 V] 23 (0, 0))) := by show _ = _; rw [hB515.block pb (Array.getElem?_eq_some_iff.1 HP5.out).1]; exact HP5.out
  have HPQ : Hid (s15.heap[pq]? = some (.cells #[.int .i64 K, .int .i64 M, .int .i64 C, .int .i64 V] 23 (0, 0))) := by show _ = _; rw [hB1315.block pq (Array.getElem?_eq_some_iff.1 HP13.out).1]; exact HP13.out
  have HE15 : Hid (s15.ownsRow s9.heap.size 70 2 vo q0 (enV (esF F q0))) := own_low HE13.out (fun r hr => own_lt HE13.out r hr) hB1315
  have HL15 : Hid (OwnF s15 s2.heap.size (.slice la q0 lc) q0 F) := HL13.out.low (fun r hr => own_lt HL13.out r hr) hB1315
  clear hb15 hB1315 hB515 HSO HST2 HR14 HG14 HR13 HB14
  obtain ⟨ea, ec, rfl, hEc⟩ := enF_cells HE15.out
  have HEC : Hid _ := hEc
  obtain ⟨la', lc', hle, hLc⟩ := OwnF.cells HL15.out
  obtain ⟨rfl, rfl⟩ : la = la' ∧ lc = lc' := by simpa using hle
  have HLC : Hid _ := hLc
  clear hEc hLc hle
  go_wp2_with fail
  go_loopw [28] (fun iv wr => ∃ (i n : Nat), i ≤ q0 ∧ iv = .int .i64 i ∧ wr = s15.drewN n) (fun iv _ => q0 - (intOf iv).toNat)
  case atStart => exact ⟨0, 0, by omega, rfl, rfl⟩
  case round =>
    obtain ⟨i, n, hi, rfl, hwr⟩ := hrel
    by_cases hlt : i < q0
    · have hlt' : (i : Int) < (q0 : Int) := by omega
      obtain ⟨ge, rfl, e1, e2⟩ := HEC.out i hlt
      obtain ⟨gl, rfl, l1, l2⟩ := HLC.out i hlt
      have f1 : wr.cell? ⟨ge, i * 2, none⟩ = some (.string (F i).1) := by rw [hwr]; exact e1
      have f2 : wr.cell? ⟨ge, i * 2 + 1, none⟩ = some (.int .i64 ((F i).2.size : Nat)) := by rw [hwr]; exact e2
      have f3 : wr.cell? ⟨gl, i * 2, none⟩ = some (.string (F i).1) := by rw [hwr]; exact l1
      have f4 : wr.cell? ⟨gl, i * 2 + 1, none⟩ = some (.string (F i).2) := by rw [hwr]; exact l2
      have HWR : Hid _ := hwr
      have HQ0 : Hid _ := hq
      clear hwr e1 e2 l1 l2
      go_wp2_with fail
      go_quiet (fail)
      go_wp2_with fail
      go_roundw
      case rel => exact ⟨i + 1, _, by omega, by go_num, by rw [HWR.out, World.drewN_drewN]⟩
      case measure => simp [intOf]; omega
    · have hlt' : ¬ (i : Int) < (q0 : Int) := by omega
      have p0 : wr.cell? ⟨pb, 0, none⟩ = some (.int .i64 K) := by rw [hwr]; exact cell_of_row s15 _ _ _ 23 _ HPB.out
      have p1 : wr.cell? ⟨pb, 1, none⟩ = some (.int .i64 M) := by rw [hwr]; exact cell_of_row s15 _ _ _ 23 _ HPB.out
      have p2 : wr.cell? ⟨pb, 2, none⟩ = some (.int .i64 C) := by rw [hwr]; exact cell_of_row s15 _ _ _ 23 _ HPB.out
      have p3 : wr.cell? ⟨pb, 3, none⟩ = some (.int .i64 V) := by rw [hwr]; exact cell_of_row s15 _ _ _ 23 _ HPB.out
      have r0 : wr.cell? ⟨pq, 0, none⟩ = some (.int .i64 K) := by rw [hwr]; exact cell_of_row s15 _ _ _ 23 _ HPQ.out
      have r1 : wr.cell? ⟨pq, 1, none⟩ = some (.int .i64 M) := by rw [hwr]; exact cell_of_row s15 _ _ _ 23 _ HPQ.out
      have r2 : wr.cell? ⟨pq, 2, none⟩ = some (.int .i64 C) := by rw [hwr]; exact cell_of_row s15 _ _ _ 23 _ HPQ.out
      have r3 : wr.cell? ⟨pq, 3, none⟩ = some (.int .i64 V) := by rw [hwr]; exact cell_of_row s15 _ _ _ 23 _ HPQ.out
      have HB16 : Hid (Below w.heap.size w wr) := by show Below _ _ _; rw [hwr]; exact HB15.out.trans ((below_drewN (Below.refl _ _) n).mono HB15.out.size)
      clear hwr
      go_wp2_with fail
      go_ret
      exact ⟨rfl, HB16.out⟩
end Go.Proofs.YtadinjaocnlglaaGreatDoor
