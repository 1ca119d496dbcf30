/-
  Plain: who knows the root knows the list, the leaves and every good block, or two texts have one digest.
  The document's Joints.
-/
import Derived.Test.YtadinjaocnlglaaGreatDoorZ44
import Derived.Test.YtadinjaocnlglaaGreatDoorZ42
import Derived.Test.YtadinjaocnlglaaGreatDoorZ26
namespace Go.Proofs.YtadinjaocnlglaaGreatDoor
open Go.RowKit Go.Maps
set_option maxRecDepth 100000
set_option maxHeartbeats 1000000
theorem app_inj2 {a b c d : ByteArray} (h : a ++ b = c ++ d) (hs : b.size = d.size) : a = c ∧ b = d := by
  have h1 := congrArg (fun x => x.data.toList) h
  simp only [app_list] at h1
  obtain ⟨h2, h3⟩ := List.append_inj' h1 (by rw [dl, dl]; exact hs)
  exact ⟨ba_ext h2, ba_ext h3⟩
theorem app_inj1 {a b c d : ByteArray} (h : a ++ b = c ++ d) (hs : a.size = c.size) : a = c ∧ b = d := by
  have h1 := congrArg (fun x => x.data.toList) h
  simp only [app_list] at h1
  obtain ⟨h2, h3⟩ := List.append_inj h1 (by rw [dl, dl]; exact hs)
  exact ⟨ba_ext h2, ba_ext h3⟩
/-- all texts of which digests are taken for the top -/
def jtL (D : ByteArray → ByteArray) (n : Nat) (L : Nat → ByteArray) : List ByteArray :=
  if _h : n < 2 then []
  else
    have _h1 : hf n < n := hf_lt n (by omega)
    have _h2 : 0 < hf n := hf_pos n
    jtL D (hf n) L ++ [⟨#[1]⟩ ++ topT D (hf n) L ++ topT D (n - hf n) (fun j => L (hf n + j))] ++ jtL D (n - hf n) (fun j => L (hf n + j))
theorem jtL_0 (D : ByteArray → ByteArray) (n : Nat) (L : Nat → ByteArray) (h : n < 2) : jtL D n L = [] := by rw [jtL, dif_pos h]
theorem jtL_n (D : ByteArray → ByteArray) (n : Nat) (L : Nat → ByteArray) (h : 2 ≤ n) : jtL D n L = jtL D (hf n) L ++ [⟨#[1]⟩ ++ topT D (hf n) L ++ topT D (n - hf n) (fun j => L (hf n + j))] ++ jtL D (n - hf n) (fun j => L (hf n + j)) := by
  rw [jtL, dif_neg (by omega)]
theorem top_inj (D : ByteArray → ByteArray) (hD : ∀ s, (D s).size = 32) : ∀ (m n : Nat) (L M : Nat → ByteArray), n ≤ m → (∀ i, i < n → (L i).size = 32) → (∀ i, i < n → (M i).size = 32) → topT D n L = topT D n M → (∀ x ∈ jtL D n L, ∀ y ∈ jtL D n M, D x = D y → x = y) → ∀ i, i < n → L i = M i
  | 0, n, _, _, hn, _, _, _, _, i, hi => by omega
  | m + 1, n, L, M, hn, hL, hM, ht, hc, i, hi => by
    by_cases h2 : n < 2
    · obtain rfl : n = 1 := by omega
      obtain rfl : i = 0 := by omega
      rw [topT_1, topT_1] at ht
      exact ht
    · have h1 : hf n < n := hf_lt n (by omega)
      have h0 : 0 < hf n := hf_pos n
      rw [topT_n D n L (by omega), topT_n D n M (by omega)] at ht
      rw [jtL_n D n L (by omega), jtL_n D n M (by omega)] at hc
      have hx := hc _ (List.mem_append_left _ (List.mem_append_right _ (List.mem_singleton.2 rfl))) _ (List.mem_append_left _ (List.mem_append_right _ (List.mem_singleton.2 rfl))) ht
      have s1 : (topT D (hf n) L).size = 32 := topT_size D 32 hD _ _ (fun j hj => hL j (by omega))
      have s2 : (topT D (hf n) M).size = 32 := topT_size D 32 hD _ _ (fun j hj => hM j (by omega))
      have s3 : (topT D (n - hf n) (fun j => L (hf n + j))).size = 32 := topT_size D 32 hD _ _ (fun j hj => hL _ (by omega))
      have s4 : (topT D (n - hf n) (fun j => M (hf n + j))).size = 32 := topT_size D 32 hD _ _ (fun j hj => hM _ (by omega))
      obtain ⟨hx1, hx2⟩ := app_inj2 hx (by rw [s3, s4])
      obtain ⟨_, hx3⟩ := app_inj2 hx1 (by rw [s1, s2])
      by_cases hi2 : i < hf n
      · exact top_inj D hD m (hf n) L M (by omega) (fun j hj => hL j (by omega)) (fun j hj => hM j (by omega)) hx3 (fun x hx y hy => hc x (List.mem_append_left _ (List.mem_append_left _ hx)) y (List.mem_append_left _ (List.mem_append_left _ hy))) i hi2
      · have := top_inj D hD m (n - hf n) (fun j => L (hf n + j)) (fun j => M (hf n + j)) (by omega) (fun j hj => hL _ (by omega)) (fun j hj => hM _ (by omega)) hx2 (fun x hx y hy => hc x (List.mem_append_right _ hx) y (List.mem_append_right _ hy)) (i - hf n) (by omega)
        have this' : L (hf n + (i - hf n)) = M (hf n + (i - hf n)) := this
        rw [show hf n + (i - hf n) = i by omega] at this'
        exact this'
/-- the texts of which the digests are taken where a volume is read -/
def roT (kt : Nat → Int) (t : ByteArray) : ByteArray := ⟨#[2]⟩ ++ (tT t).lst ++ topT (ofT kt) (tT t).L.cnt (pc (tT t).lv 32)
def txT (kt : Nat → Int) (t : ByteArray) : List ByteArray :=
  if rdE kt t = none then [roT kt t] ++ jtL (ofT kt) (tT t).L.cnt (pc (tT t).lv 32) ++ (List.range (nB t)).map (fun i => ⟨#[0]⟩ ++ pc (tRest t) (tT t).L.C i) else []
def txL (kt : Nat → Int) (l : List ByteArray) : List ByteArray := l.flatMap (txT kt)
def NoC (kt : Nat → Int) (l : List ByteArray) : Prop := ∀ x ∈ l, ∀ y ∈ l, ofT kt x = ofT kt y → x = y
theorem rd_root {kt : Nat → Int} {t : ByteArray} (h : rdE kt t = none) : (tT t).root = ofT kt (roT kt t) := by
  unfold rdE at h
  split at h
  · cases h
  · split at h
    · cases h
    · split at h
      · split at h
        · rename_i hr
          exact hr
        · cases h
      · cases h
theorem sd_root {kt : Nat → Int} {rt t : ByteArray} (hrt : rt.size = 32) (h : sdE kt rt t = none) : rdE kt t = none ∧ (tT t).root = rt := by
  unfold sdE at h
  split at h
  · rename_i hs; rw [h] at hs; cases hs
  · rename_i hs
    refine ⟨by simpa using hs, ?_⟩
    split at h
    · rename_i e; rw [e] at hrt; cases hrt
    · split at h
      · rename_i e; exact e
      · cases h
/-- what Open's state comes of -/
structure ORun (kt : Nat → Int) (rt : ByteArray) (l : List ByteArray) (s : OS) : Prop where
  hd : ∀ t0, s.hd = some t0 → t0 ∈ l ∧ sdE kt rt t0 = none
  bl : ∀ x, s.bl x = ⟨#[]⟩ ∨ ∃ t ∈ l, sdE kt rt t = none ∧ ∃ i, i < nB t ∧ s.bl x = pc (tRest t) (tT t).L.C i
theorem ORun.more {kt : Nat → Int} {rt : ByteArray} {l r : List ByteArray} {s : OS} (h : ORun kt rt l s) (hr : ∀ t ∈ l, t ∈ r) : ORun kt rt r s :=
  ⟨fun t0 e => ⟨hr _ (h.hd t0 e).1, (h.hd t0 e).2⟩, fun x => by
    rcases h.bl x with e | ⟨t, ht, e⟩
    · exact .inl e
    · exact .inr ⟨t, hr t ht, e⟩⟩
theorem ORun.take {kt : Nat → Int} {rt t : ByteArray} {l : List ByteArray} {b : Nat → ByteArray} {x : Nat} (hb : b x = ⟨#[]⟩ ∨ ∃ t ∈ l, sdE kt rt t = none ∧ ∃ i, i < nB t ∧ b x = pc (tRest t) (tT t).L.C i) (ht : t ∈ l) (hs : sdE kt rt t = none) : laid b (tT t).first (nB t) (pc (tRest t) (tT t).L.C) x = ⟨#[]⟩ ∨ ∃ t' ∈ l, sdE kt rt t' = none ∧ ∃ i, i < nB t' ∧ laid b (tT t).first (nB t) (pc (tRest t) (tT t).L.C) x = pc (tRest t') (tT t').L.C i := by
  unfold laid
  split
  · rename_i hx
    exact .inr ⟨t, ht, hs, _, by omega, rfl⟩
  · exact hb
theorem step_inv {kt : Nat → Int} {rt t : ByteArray} {l : List ByteArray} {i : Nat} {s s' : OS} (h : ORun kt rt l s) (e : s.step kt rt i t = .ok s') : ORun kt rt (l ++ [t]) s' := by
  have h' := h.more (r := l ++ [t]) (fun x hx => List.mem_append_left _ hx)
  have ht : t ∈ l ++ [t] := List.mem_append_right _ (List.mem_singleton.2 rfl)
  unfold OS.step at e
  split at e
  · cases e
    exact ⟨h'.hd, h'.bl⟩
  · rename_i hs
    have hs' : sdE kt rt t = none := by simpa using hs
    split at e
    · cases e
      refine ⟨fun t0 e0 => ?_, fun x => ?_⟩
      · cases e0; exact ⟨ht, hs'⟩
      · exact ORun.take (.inl rfl) ht hs'
    · split at e
      · split at e
        · cases e
        · cases e
          exact ⟨h'.hd, fun x => ORun.take (h'.bl x) ht hs'⟩
      · cases e
theorem run_inv {kt : Nat → Int} {rt : ByteArray} : ∀ (r l : List ByteArray) (i : Nat) (s s' : OS), ORun kt rt l s → OS.run kt rt i r s = .ok s' → ORun kt rt (l ++ r) s'
  | [], l, i, s, s', h, e => by
    cases e
    rw [List.append_nil]; exact h
  | t :: r, l, i, s, s', h, e => by
    unfold OS.run at e
    split at e
    · rename_i s1 e1
      have := run_inv r (l ++ [t]) (i + 1) s1 s' (step_inv h e1) e
      rw [List.append_assoc] at this
      exact this
    · cases e
/-- all that is true of what was opened with the root -/
structure Gdd (kt : Nat → Int) (F : Nat → Ob) (q : Nat) (s : OS) (t0 : ByteArray) : Prop where
  es : (tT t0).L.es = esF F q
  obj : ∀ j, j < q → finJ kt (tT t0) s.bl j = true → unO kt (tT t0) s.bl j = F j
theorem guarded_plain {kt : Nat → Int} {F : Nat → Ob} {q K M C V : Nat} (hS : Srt q F) (hK1 : 1 ≤ K) (hK2 : K ≤ 5) (hM : M ≤ 3) (hC1 : 1 ≤ C) (hC2 : C ≤ 8) (hV1 : 1 ≤ V) (hV2 : V ≤ 5) (hq : q ≤ 5) {s : OS} {t0 : ByteArray} {H : Nat → ByteArray} {m : Nat} (hop : Opn kt (rtT kt K M C V (datOf F q) (nmF F q)) H m s t0)
    (hno : NoC kt (txL kt (texL (voT kt K M C V (datOf F q) (nmF F q)) V) ++ txL kt (texL H m))) : Gdd kt F q s t0 := by
  obtain ⟨nb, hnb⟩ : ∃ x, nbT K M C (smF F q) = x := ⟨_, rfl⟩
  obtain ⟨ns, hns0⟩ : ∃ x, nst (K * C) (smF F q).size = x := ⟨_, rfl⟩
  have h := srt_ok hS hK1 hK2 hM hC1 hC2 hV1 hV2 hq
  rw [hnb] at h
  rw [rt_eq hS] at hop
  obtain ⟨_, hrun, hhd⟩ := hop
  have hrs : (rtE kt K M C V (esF F q) (smF F q)).size = 32 := ofT_size _ _
  have hR : ORun kt (rtE kt K M C V (esF F q) (smF F q)) (texL H m) s := by
    have := run_inv (texL H m) [] 0 OS.new s ⟨fun t0 e => by (cases e), fun x => .inl rfl⟩ hrun
    exact this
  -- the texts of the vault's own volumes
  have hvt : ∀ v, v < V → ∀ x ∈ txT kt (hdE kt K M C V (esF F q) (smF F q) v ++ reE K M C V (smF F q) v), x ∈ txL kt (texL (voT kt K M C V (datOf F q) (nmF F q)) V) ++ txL kt (texL H m) := fun v hv x hx => by
    refine List.mem_append_left _ (List.mem_flatMap.2 ⟨_, ?_, hx⟩)
    rw [← vo_eq hS]
    exact List.mem_map.2 ⟨v, List.mem_range.2 hv, rfl⟩
  have hht : ∀ t ∈ texL H m, ∀ x ∈ txT kt t, x ∈ txL kt (texL (voT kt K M C V (datOf F q) (nmF F q)) V) ++ txL kt (texL H m) := fun t ht x hx => List.mem_append_right _ (List.mem_flatMap.2 ⟨t, ht, hx⟩)
  have hrd : ∀ v, v < V → rdE kt (hdE kt K M C V (esF F q) (smF F q) v ++ reE K M C V (smF F q) v) = none := fun v hv => h.rd kt hv (Nat.le_of_eq (h.rest hv).1)
  have hwr := fun v (hv : v < V) => h.wrt kt hv (reE K M C V (smF F q) v)
  obtain ⟨ht0, hs0⟩ := hR.hd t0 hhd
  obtain ⟨hr0, hroot0⟩ := sd_root hrs hs0
  obtain ⟨t1, ht1⟩ : ∃ x, hdE kt K M C V (esF F q) (smF F q) 0 ++ reE K M C V (smF F q) 0 = x := ⟨_, rfl⟩
  have hr1 := hrd 0 (by omega)
  have hT1 := (hwr 0 (by omega)).tld
  have hx1 := hvt 0 (by omega)
  rw [ht1] at hr1 hT1 hx1
  have hT1' : Tld (tT t1) K M C V 0 (esF F q) _ _ _ _ := hT1
  have m0 : roT kt t0 ∈ txT kt t0 := by unfold txT; rw [if_pos hr0]; exact List.mem_append_left _ (List.mem_append_left _ (List.mem_singleton.2 rfl))
  have m1 : roT kt t1 ∈ txT kt t1 := by unfold txT; rw [if_pos hr1]; exact List.mem_append_left _ (List.mem_append_left _ (List.mem_singleton.2 rfl))
  have hro : roT kt t0 = roT kt t1 := by
    refine hno _ (hht t0 ht0 _ m0) _ (hx1 _ m1) ?_
    rw [← rd_root hr0, ← rd_root hr1, hroot0, hT1'.root]
  have hT0 : Told1 (tT t0) := ck_ok (rd_none hr0).2.1
  have hT1o : Told1 (tT t1) := ck_ok (rd_none hr1).2.1
  have z0 : ∀ i, i < (tT t0).L.cnt → (pc (tT t0).lv 32 i).size = 32 := fun i hi => pc_size _ 32 _ i hT0.lv hi
  have z1 : ∀ i, i < (tT t1).L.cnt → (pc (tT t1).lv 32 i).size = 32 := fun i hi => pc_size _ 32 _ i hT1o.lv hi
  unfold roT at hro
  obtain ⟨e1, e2⟩ := app_inj2 hro (by rw [topT_size (ofT kt) 32 (ofT_size kt) _ _ z0, topT_size (ofT kt) 32 (ofT_size kt) _ _ z1])
  obtain ⟨_, e3⟩ := app_inj1 e1 rfl
  have hLE := same_list (t := t1) (t2 := t0) (bytes_ok (rd_none hr1).2.1) (bytes_ok (rd_none hr0).2.1) e3.symm
  have hLE' : LEq (tT t1).L (tT t0).L := hLE
  have hcn := hLE'.cnt
  have hcn1 : (tT t1).L.cnt = nb := by
    unfold LT.cnt
    rw [hT1'.K, hT1'.M, hT1'.C, hT1'.es, ← h.len]; exact h.ct
  rw [hcn] at e2 z0
  rw [hcn1] at e2 z0 z1
  have hlf : ∀ i, i < nb → pc (tT t0).lv 32 i = pc (tT t1).lv 32 i := top_inj (ofT kt) (ofT_size kt) nb nb _ _ (Nat.le_refl _) z0 z1 e2 (fun x hx y hy => hno x (hht t0 ht0 x (by unfold txT; rw [if_pos hr0, hcn, hcn1]; exact List.mem_append_left _ (List.mem_append_right _ hx))) y (hx1 y (by unfold txT; rw [if_pos hr1, hcn1]; exact List.mem_append_left _ (List.mem_append_right _ hy))))
  have hlv : (tT t0).lv = lvE kt K M C (smF F q) := by
    have a0 := hT0.lv
    have a1 := hT1o.lv
    rw [hcn, hcn1] at a0
    rw [hcn1] at a1
    rw [← jT_pc _ 32 nb a0, jT_congr hlf, jT_pc _ 32 nb a1]
    exact hT1'.lv
  have hTt : Tld (tT t0) K M C V (tT t0).num (esF F q) (tT t0).root (tT t0).lst (lvE kt K M C (smF F q)) (Ahd (tT t0).st) :=
    ⟨bytes_ok (rd_none hr0).2.1, hLE'.K.trans hT1'.K, hLE'.M.trans hT1'.M, hLE'.C.trans hT1'.C, hLE'.V.trans hT1'.V, hLE'.es.trans hT1'.es, rfl, rfl, rfl, hlv, rfl⟩
  have hin : ∀ x, x < nb → ∃ v, v < V ∧ v * nb / V ≤ x ∧ x < (v + 1) * nb / V := fun x hx => in_range nb V x V (by rw [Nat.mul_div_cancel_left _ hV1]; exact hx)
  -- a good block is the one that was written
  have hgood : ∀ x, x < nb → goodB kt C (lvE kt K M C (smF F q)) x (s.bl x) = true → s.bl x = bkT K M C (smF F q) x := fun x hx hg => by
    obtain ⟨g1, g2⟩ := of_decide_eq_true hg
    rw [lv_pc kt K M C (smF F q) (by rw [hnb]; exact hx)] at g2
    have g3 : ofT kt (⟨#[0]⟩ ++ s.bl x) = ofT kt (⟨#[0]⟩ ++ bkT K M C (smF F q) x) := g2
    rcases hR.bl x with e | ⟨t, ht, hst, i, hi, e⟩
    · rw [e] at g1
      have : (⟨#[]⟩ : ByteArray).size = 0 := rfl
      omega
    · obtain ⟨hrt, _⟩ := sd_root hrs hst
      have a1 : (⟨#[0]⟩ ++ s.bl x : ByteArray) ∈ txT kt t := by
        unfold txT; rw [if_pos hrt, e]
        exact List.mem_append_right _ (List.mem_map.2 ⟨i, List.mem_range.2 hi, rfl⟩)
      obtain ⟨v, hv, h1, h2⟩ := hin x hx
      have hw := hwr v hv
      have hrv := hrd v hv
      have hvv := hvt v hv
      obtain ⟨tv, htv⟩ : ∃ x, hdE kt K M C V (esF F q) (smF F q) v ++ reE K M C V (smF F q) v = x := ⟨_, rfl⟩
      rw [htv] at hw hrv hvv
      have hC' : Tld (tT tv) K M C V v (esF F q) _ _ _ _ := hw.tld
      have hC := hC'.C
      have a2 : (⟨#[0]⟩ ++ bkT K M C (smF F q) x : ByteArray) ∈ txT kt tv := by
        unfold txT; rw [if_pos hrv]
        refine List.mem_append_right _ (List.mem_map.2 ⟨x - v * nb / V, List.mem_range.2 ?_, ?_⟩)
        · unfold nB
          rw [hw.rest, hC, (h.rest hv).1, Nat.mul_div_cancel _ hC1]; omega
        · rw [hw.rest, hC, (h.rest hv).2 _ (by omega), show v * nb / V + (x - v * nb / V) = x by omega]
      exact (app_inj1 (hno _ (hht t ht _ a1) _ (hvv _ a2) g3) rfl).2
  have hn : (tT t0).n = K + M := by unfold TT.n; rw [hTt.K, hTt.M]
  have hnsn : ns * (K + M) = nb := by rw [← hns0]; exact h.ct
  have hxlt : ∀ st i, st < ns → i < K + M → st * (K + M) + i < nb := fun st i hst hi => by
    have h1 : (st + 1) * (K + M) ≤ ns * (K + M) := Nat.mul_le_mul_right _ hst
    rw [hnsn, Nat.succ_mul] at h1
    omega
  have hlen : ∀ j, j < q → lenE ((esF F q).take j) + (F j).2.size ≤ (smF F q).size := fun j hj => by
    have e := take_len (esF F q) j (by rw [esF_len]; exact hj)
    rw [(esF_get F q j hj).2] at e
    rw [sm_size, ← e]
    exact lenE_take_le _ _
  refine ⟨hTt.es, fun j hj hf => un_one hj hTt.es (fun x h1 h2 => ?_)⟩
  have hx : x / (K * C) < ns := by
    rw [← hns0, Nat.div_lt_iff_lt_mul h.z]
    exact Nat.lt_of_lt_of_le (Nat.lt_of_lt_of_le h2 (hlen j hj)) (nst_le _ _ h.z)
  have hf0 : stF kt (tT t0) s.bl (x / (K * C)) = 0 := by
    unfold finJ at hf
    rw [List.all_eq_true, hTt.es, hTt.K, hTt.C, (esF_get F q j hj).2] at hf
    have := of_decide_eq_true (hf (x - lenE ((esF F q).take j)) (List.mem_range.2 (by omega)))
    rw [show lenE ((esF F q).take j) + (x - lenE ((esF F q).take j)) = x by omega] at this
    exact this
  have hck : K ≤ cnt (stH kt (tT t0) s.bl (x / (K * C))) (K + M) := by
    rcases Nat.lt_or_ge (cnt (stH kt (tT t0) s.bl (x / (K * C))) (K + M)) K with hlt | hge
    · unfold stF fate at hf0
      rw [hTt.K, hTt.M, if_pos hlt] at hf0
      cases hf0
    · exact hge
  have hstr := h.stripe hTt (by rw [hns0]; exact hx) (bl := s.bl) (fun i hi hg => by
    unfold stH at hg
    rw [hn, hTt.C, hTt.lv] at hg
    exact hgood _ (hxlt _ i hx hi) hg) hck
  exact h.byte (T := tT t0) hTt (by rw [hns0]; exact hx) (fun i hi => hstr.2 i (by omega))
end Go.Proofs.YtadinjaocnlglaaGreatDoor
namespace Go.Proofs.YtadinjaocnlglaaGreatDoor
open Go.RowKit
set_option maxRecDepth 100000
set_option maxHeartbeats 4000000
/-- a list of texts as it lies in memory -/
def txs (l : List ByteArray) : List Value := l.map Value.string
theorem txs_app (l r : List ByteArray) : txs (l ++ r) = txs l ++ txs r := List.map_append
def OwnT (w : World) (B : Nat) (v : Value) (l : List ByteArray) : Prop := w.ownsRow B 9 1 v l.length (txs l)
theorem OwnT.nil (w : World) (B : Nat) : OwnT w B (.slice none 0 0) [] := ⟨rfl, .inl ⟨rfl, rfl⟩⟩
theorem OwnT.below {w w' : World} {B : Nat} {v : Value} {l : List ByteArray} (h : OwnT w B v l) (hb : Below w.heap.size w w') : OwnT w' B v l := own_kept h (fun q hq => hb.block q (own_lt h q hq))
/-- a list behind a list -/
theorem OwnT.cat {w : World} {B B' : Nat} {v u : Value} {l r : List ByteArray} (hv : OwnT w B v l) (hu : OwnT w B' u r) (hn : l.length + r.length ≤ 1000000) (hB : B ≤ w.heap.size) :
    ∃ v' w', (Builtin.append_ #[42, 42] 42 #[v, u]).run Tryz.prog w = .ok v' w' ∧ OwnT w' B v' (l ++ r) ∧ w.grownBy w' v.ownBlock ∧ (∀ w0, B ≤ w0.heap.size → Below w0.heap.size w0 w → (B = w0.heap.size) → Below w0.heap.size w0 w') ∧ (∀ j, j < w.heap.size → v'.ownBlock = some j → v.ownBlock = some j) := by
  obtain ⟨i0, hi0, z0, z1, z2⟩ := info_parts info9p
  obtain ⟨v', w', hr, ho, hg, hb⟩ := app_rows 42 Tryz.underlying42 hi0 z0 z1 z2 rfl (by decide) hv hu (by intro u hu; obtain ⟨x, _, rfl⟩ := List.mem_map.1 hu; rfl) (by omega) (by omega) hB
  refine ⟨v', w', hr, ?_, hg, fun w0 h0 h1 h2 => h1.grown hg h1.size (fun y hy => by rw [← h2]; exact own_ge hv y hy), fun j hj e => by
    rcases hb with h | h
    · exact h.symm.trans e
    · rw [h] at e; have := Option.some.inj e; omega⟩
  unfold OwnT
  rw [List.length_append, txs_app]
  exact ho
/-- a text behind a list -/
theorem OwnT.snoc {w : World} {B : Nat} {v : Value} {l : List ByteArray} (hv : OwnT w B v l) (x : ByteArray) (hn : l.length ≤ 1000000) (hB : B ≤ w.heap.size) :
    ∃ v' w', (Builtin.append_ #[42, 42] 42 #[v, .slice (some ⟨w.heap.size, 0, none⟩) 1 1]).run Tryz.prog (w.alloc (.cells #[.string x] 9)) = .ok v' w' ∧ OwnT w' B v' (l ++ [x]) ∧ (w.alloc (.cells #[.string x] 9)).grownBy w' v.ownBlock ∧ (∀ w0, Below w0.heap.size w0 w → (B = w0.heap.size) → Below w0.heap.size w0 w') ∧ (∀ j, j < w.heap.size → v'.ownBlock = some j → v.ownBlock = some j) := by
  obtain ⟨i0, hi0, z0, z1, z2⟩ := info_parts info9p
  obtain ⟨v', w', hr, ho, hg, hb⟩ := app_rows 42 Tryz.underlying42 hi0 z0 z1 z2 rfl (by decide) (hv.alloc (.cells #[.string x] 9)) (own_text w x) (by intro u hu; simp at hu; subst hu; rfl) (by omega) (by omega) (by simp; omega)
  refine ⟨v', w', hr, ?_, hg, fun w0 h1 h2 => (h1.alloc h1.size _).grown hg (by simp; exact Nat.le_succ_of_le h1.size) (fun y hy => by rw [← h2]; exact own_ge hv y hy), fun j hj e => by
    rcases hb with h | h
    · exact h.symm.trans e
    · rw [h] at e; have := Option.some.inj e; simp at this; omega⟩
  unfold OwnT
  rw [List.length_append, txs_app]
  exact ho
theorem jtL_len (D : ByteArray → ByteArray) : ∀ (m n : Nat) (L : Nat → ByteArray), n ≤ m → (jtL D n L).length ≤ n - 1
  | 0, n, L, h => by rw [jtL_0 D n L (by omega)]; simp
  | m + 1, n, L, h => by
    by_cases h2 : n < 2
    · rw [jtL_0 D n L h2]; simp
    · have h1 : hf n < n := hf_lt n (by omega)
      have h0 : 0 < hf n := hf_pos n
      rw [jtL_n D n L (by omega)]
      have a := jtL_len D m (hf n) L (by omega)
      have b := jtL_len D m (n - hf n) (fun j => L (hf n + j)) (by omega)
      simp only [List.length_append, List.length_singleton]
      omega
theorem rjoints (kt : Nat → Int) : ∀ (n : Nat) (L : Nat → ByteArray) (b o cap : Nat) (w : World), n ≤ cap → cap < 9223372036854775808 → n ≤ 1000 → Gr kt w → b < w.heap.size → (∀ i, i < n → (L i).size ≤ 32) → Co w b o n (tI L) →
    Calls Tryz.prog 87 #[.slice (some ⟨b, o, none⟩) n cap] w fun e w' => ∃ v, e = .returned v ∧ OwnT w' w.heap.size v (jtL (ofT kt) n L) ∧ Below w.heap.size w w' := by
  intro n
  induction n using Nat.strongRecOn with
  | ind n ih =>
  intro L b o cap w hn hc hn2 hG hb hL hC
  by_cases h1 : n < 2
  · rw [jtL_0 _ _ _ h1]
    have h1' : (n : Int) < 2 := by omega
    clear ih hC hL hG
    go_enter Tryz.func87, Tryz.ntmps87
    go_wp2
    go_ret
    exact ⟨_, rfl, OwnT.nil _ _, Below.refl _ _⟩
  · have h2 : 2 ≤ n := by omega
    have h1' : ¬ (n : Int) < 2 := by omega
    rw [jtL_n _ n L h2]
    have e1 := hf_lt n h2
    have e2 := hf_pos n
    have HH : Hid _ := fun W => half_any n W h2 (by omega)
    have H1 : Hid _ := fun W => ih (hf n) e1 L b o cap W (by omega) hc (by omega)
    have H2 : Hid _ := fun W => ih (n - hf n) (by omega) (fun j => L (hf n + j)) b (o + hf n) (cap - hf n) W (by omega) (by omega) (by omega)
    have H3 : Hid _ := fun W => rtop_any kt (hf n) L b o cap W (by omega) hc
    have H4 : Hid _ := fun W => rtop_any kt (n - hf n) (fun j => L (hf n + j)) b (o + hf n) (cap - hf n) W (by omega) (by omega)
    have hT1 := topT_le (ofT kt) 32 (fun s => Nat.le_of_eq (ofT_size kt s)) (hf n) L (fun i hi => hL i (by omega))
    have hT2 := topT_le (ofT kt) 32 (fun s => Nat.le_of_eq (ofT_size kt s)) (n - hf n) (fun j => L (hf n + j)) (fun i hi => hL _ (by omega))
    have HL : Hid _ := hL
    have HC : Hid (Co w b o n (tI L)) := hC
    have HG : Hid _ := hG
    obtain ⟨A, hA⟩ : ∃ A, topT (ofT kt) (hf n) L = A := ⟨_, rfl⟩
    obtain ⟨B, hBB⟩ : ∃ B, topT (ofT kt) (n - hf n) (fun j => L (hf n + j)) = B := ⟨_, rfl⟩
    obtain ⟨la, hla⟩ : ∃ x, jtL (ofT kt) (hf n) L = x := ⟨_, rfl⟩
    obtain ⟨lb, hlb⟩ : ∃ x, jtL (ofT kt) (n - hf n) (fun j => L (hf n + j)) = x := ⟨_, rfl⟩
    have za : la.length ≤ 1000 := by rw [← hla]; have := jtL_len (ofT kt) n (hf n) L (by omega); omega
    have zb : lb.length ≤ 1000 := by rw [← hlb]; have := jtL_len (ofT kt) n (n - hf n) (fun j => L (hf n + j)) (by omega); omega
    rw [hA] at hT1 H3 ⊢
    rw [hBB] at hT2 H4 ⊢
    rw [hla] at H1 ⊢
    rw [hlb] at H2 ⊢
    obtain ⟨m, hm2⟩ : ∃ m, hf n = m := ⟨_, rfl⟩
    rw [hm2] at e1 e2 HH H1 H2 H3 H4
    clear ih hC hL hG hA hBB hla hlb hm2
    go_enter Tryz.func87, Tryz.ntmps87
    go_wp2_with fail
    refine Calls.mono (HH.out _) ?_
    rintro e w1 ⟨rfl, rfl⟩
    go_wp2_with fail
    refine Calls.mono (H1.out _ HG.out hb (fun i hi => HL.out i (by omega)) (Co.lo HC.out (by omega))) ?_
    rintro e w2 ⟨va, rfl, ho2, hB2⟩
    obtain ⟨aa, ca, rfl⟩ := own_shape ho2
    have HO2 : Hid (OwnT w2 w1.heap.size (.slice aa la.length ca) la) := ho2
    have HB2 : Hid (Below w1.heap.size w1 w2) := hB2
    have hb2 : b < w2.heap.size := Nat.lt_of_lt_of_le hb hB2.size
    clear hB2 ho2
    go_wp2_with fail
    refine Calls.mono (H2.out _ (HG.out.below HB2.out) hb2 (fun i hi => HL.out _ (by omega)) ((Co.hi HC.out (by omega)).below HB2.out hb)) ?_
    rintro e w3 ⟨vb, rfl, ho3, hB3⟩
    obtain ⟨ab, cb, rfl⟩ := own_shape ho3
    have HO3 : Hid (OwnT w3 w2.heap.size (.slice ab lb.length cb) lb) := ho3
    have HB3 : Hid (Below w1.heap.size w1 w3) := HB2.out.trans (hB3.mono HB2.out.size)
    have HO2b : Hid (OwnT w3 w1.heap.size (.slice aa la.length ca) la) := OwnT.below HO2.out hB3
    have HAP : Hid (∀ j, (Value.slice aa la.length ca).ownBlock = some j → (Value.slice ab lb.length cb).ownBlock ≠ some j) := fun j h1 h2 => by
      have := own_lt HO2.out j h1
      have := own_ge HO3.out j h2
      omega
    have hb3 : b < w3.heap.size := Nat.lt_of_lt_of_le hb HB3.out.size
    clear hB3 ho3
    go_wp2_with fail
    refine Calls.mono (H3.out _ (HG.out.below HB3.out) hb3 (fun i hi => Nat.le_trans (HL.out i (by omega)) (by omega)) ((Co.lo HC.out (by omega)).below HB3.out hb)) ?_
    rintro e w4 ⟨rfl, hB4⟩
    have HB4 : Hid (Below w1.heap.size w1 w4) := HB3.out.trans (hB4.mono HB3.out.size)
    have HB34 : Hid _ := hB4
    have hb4 : b < w4.heap.size := Nat.lt_of_lt_of_le hb HB4.out.size
    clear hB4
    go_wp2_with fail
    refine Calls.mono (H4.out _ (HG.out.below HB4.out) hb4 (fun i hi => Nat.le_trans (HL.out _ (by omega)) (by omega)) ((Co.hi HC.out (by omega)).below HB4.out hb)) ?_
    rintro e w5 ⟨rfl, hB5⟩
    have HB5 : Hid (Below w1.heap.size w1 w5) := HB4.out.trans (hB5.mono HB4.out.size)
    have hB35 : Below w3.heap.size w3 w5 := HB34.out.trans (hB5.mono HB34.out.size)
    have HA5 : Hid (OwnT w5 w1.heap.size (.slice aa la.length ca) la) := OwnT.below HO2b.out hB35
    have HB5b : Hid (OwnT w5 w2.heap.size (.slice ab lb.length cb) lb) := OwnT.below HO3.out hB35
    clear hB5 hB35
    have HJ : Hid _ := fun W => joint_any A B W (by omega) (by omega)
    go_wp2_with fail
    refine Calls.mono (HJ.out _) ?_
    rintro e w5' ⟨rfl, rfl⟩
    obtain ⟨X, hX⟩ : ∃ x, ⟨#[1]⟩ ++ A ++ B = x := ⟨_, rfl⟩
    rw [hX]
    have HX : Hid _ := hX
    obtain ⟨v6, w6, hrun6, ho6, hg6, hbel6, _⟩ := OwnT.snoc HA5.out X (by omega) HB5.out.size
    have hB6 := hbel6 w1 HB5.out rfl
    have ho6b : OwnT w6 w2.heap.size (.slice ab lb.length cb) lb := own_kept HB5b.out (fun q hq => by
      have hq5 := own_lt HB5b.out q hq
      rw [hg6.block q (by simp; omega) (fun e => HAP.out q e.symm hq), heap_alloc_old _ _ hq5])
    obtain ⟨n6, hn6⟩ : ∃ x, (la ++ [X]).length = x := ⟨_, rfl⟩
    obtain ⟨a6, c6, rfl⟩ := own_shape ho6
    rw [hn6] at hrun6
    obtain ⟨v7, w7, hrun7, ho7, hg7, hbel7, _⟩ := OwnT.cat ho6 ho6b (by simp; omega) hB6.size
    have hB7 := hbel7 w1 (Nat.le_refl _) hB6 rfl
    obtain ⟨n7, hn7⟩ : ∃ x, (la ++ [X] ++ lb).length = x := ⟨_, rfl⟩
    obtain ⟨a7, c7, rfl⟩ := own_shape ho7
    rw [hn6, hn7] at hrun7
    rw [hn7] at ho7
    have R6 : Hid _ := hrun6
    have R7 : Hid _ := hrun7
    have O7 : Hid (OwnT w7 w1.heap.size (.slice a7 n7 c7) (la ++ [X] ++ lb)) := ho7
    have B7 : Hid _ := hB7
    clear hrun6 ho6 hg6 hbel6 hB6 ho6b hrun7 ho7 hg7 hbel7 hB7 hX hn6 hn7
    go_wp2_with (at_builtin; first | refine wpList_app rfl (.tmp 30) (.tmp 34) 42 rfl _ _ _ (by simp [Act.eval]) (by simp [Act.eval]) _ R6.out ?_ | refine wpList_app rfl (.tmp 36) (.tmp 37) 42 rfl _ _ _ (by simp [Act.eval]) (by simp [Act.eval]) _ R7.out ?_)
    go_ret
    exact ⟨_, rfl, by rw [HX.out]; exact O7.out, B7.out⟩
theorem rjoints_nil (kt : Nat → Int) (L : Nat → ByteArray) (w : World) : Calls Tryz.prog 87 #[.slice none 0 0] w fun e w' => ∃ v, e = .returned v ∧ OwnT w' w.heap.size v (jtL (ofT kt) 0 L) ∧ Below w.heap.size w w' := by
  rw [jtL_0 _ _ _ (by omega)]
  go_enter Tryz.func87, Tryz.ntmps87
  go_wp2
  go_ret
  exact ⟨_, rfl, OwnT.nil _ _, Below.refl _ _⟩
theorem rjoints_own (kt : Nat → Int) (L : Nat → ByteArray) (n B : Nat) (v : Value) (w : World) (hn : n ≤ 1000) (hG : Gr kt w) (hL : ∀ i, i < n → (L i).size ≤ 32) (ho : w.ownsRow B 9 1 v n (tV L n)) : Calls Tryz.prog 87 #[v] w fun e w' => ∃ v', e = .returned v' ∧ OwnT w' w.heap.size v' (jtL (ofT kt) n L) ∧ Below w.heap.size w w' := by
  rcases ho.2 with ⟨rfl, rfl⟩ | ⟨g, cap, cur, rfl, hb, hh, hnc, hcm, _⟩
  · exact rjoints_nil kt L w
  · refine rjoints kt n L g 0 cap w hnc (by unfold maxLen at hcm; omega) hn hG (Array.getElem?_eq_some_iff.1 hh).1 hL (fun i hi => ?_)
    have h1 := ho.cellAt i (by omega)
    rw [Nat.zero_add]
    refine h1.trans ?_
    simp [tV, tI, hi]
end Go.Proofs.YtadinjaocnlglaaGreatDoor
