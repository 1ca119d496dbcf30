/-
  Plain: volumes that lose parts, as data.
-/
import Derived.Test.YtadinjaocnlglaaGreatDoorZ40
namespace Go.Proofs.YtadinjaocnlglaaGreatDoor
open Go.RowKit Go.Maps
set_option maxRecDepth 100000
set_option maxHeartbeats 1000000
theorem cnt_mono {h g : Nat → Bool} : ∀ n, (∀ j, j < n → h j = true → g j = true) → cnt h n ≤ cnt g n
  | 0, _ => Nat.le_refl _
  | n + 1, e => by
    rw [cnt, cnt]
    have := cnt_mono n (fun j hj => e j (by omega))
    by_cases h1 : h n = true
    · rw [if_pos h1, if_pos (e n (by omega) h1)]; omega
    · rw [if_neg h1]; omega
theorem cnt_not (h : Nat → Bool) : ∀ n, cnt h n + cnt (fun j => !h j) n = n
  | 0 => rfl
  | n + 1 => by
    have := cnt_not h n
    rw [cnt, cnt]
    cases h n <;> simp <;> omega
theorem cnt_none (h : Nat → Bool) : ∀ n, (∀ j, j < n → h j = false) → cnt h n = 0
  | 0, _ => rfl
  | n + 1, e => by rw [cnt, cnt_none h n (fun j hj => e j (by omega)), e n (by omega)]; rfl
/-- blocks that are lost, and those of a range too -/
def mkB (lost : Nat → Bool) (a b : Nat) : Nat → Bool := fun x => lost x || (decide (a ≤ x) && decide (x < b))
theorem mkB_old {lost : Nat → Bool} {a b x : Nat} (h : mkB lost a b x = false) : lost x = false ∧ ¬ (a ≤ x ∧ x < b) := by
  unfold mkB at h
  simp only [Bool.or_eq_false_iff, Bool.and_eq_false_iff, decide_eq_false_iff_not] at h
  exact ⟨h.1, fun e => by rcases h.2 with h | h <;> omega⟩
theorem mkB_up {lost : Nat → Bool} {a b x : Nat} (h : lost x = true) : mkB lost a b x = true := by unfold mkB; rw [h]; rfl
theorem mkB_in {lost : Nat → Bool} {a b x : Nat} (h1 : a ≤ x) (h2 : x < b) : mkB lost a b x = true := by unfold mkB; rw [decide_eq_true h1, decide_eq_true h2]; simp
def May (K M ns : Nat) (lost : Nat → Bool) (a b : Nat) : Prop := ∀ s, s < ns → cnt (fun i => mkB lost a b (s * (K + M) + i)) (K + M) ≤ M
def updC (f : Nat → Nat) (k v : Nat) : Nat → Nat := fun j => if j = k then v else f j
/-- what is left of volumes -/
structure WIv (K M C V nb ns : Nat) (B : Nat → ByteArray) (lost out : Nat → Bool) (cut : Nat → Nat) (R : Nat → ByteArray) : Prop where
  sz : ∀ v, v < V → (R v).size = ((v + 1) * nb / V - v * nb / V) * C
  lo : ∀ v, v < V → v * nb / V ≤ cut v
  hi : ∀ v, v < V → cut v ≤ (v + 1) * nb / V
  asw : ∀ v, v < V → ∀ i, v * nb / V + i < (v + 1) * nb / V → lost (v * nb / V + i) = false → pc (R v) C i = B (v * nb / V + i)
  ct : ∀ v, v < V → ∀ x, cut v ≤ x → x < (v + 1) * nb / V → lost x = true
  ou : ∀ v, v < V → out v = true → ∀ x, v * nb / V ≤ x → x < (v + 1) * nb / V → lost x = true
  few : ∀ s, s < ns → cnt (fun i => lost (s * (K + M) + i)) (K + M) ≤ M
  left : ∃ v, v < V ∧ out v = false
section
variable {K M C V nb ns : Nat} {B : Nat → ByteArray} {lost out : Nat → Bool} {cut : Nat → Nat} {R R' : Nat → ByteArray}
theorem WIv.zero (h : WIv K M C V nb ns B lost out cut R) {n u : Nat} (h1 : u * nb / V ≤ n) (hm : May K M ns lost n (n + 1)) (ho : ∀ v, v ≠ u → R' v = R v) (hz : (R' u).size = (R u).size) (hp : ∀ i, i ≠ n - u * nb / V → pc (R' u) C i = pc (R u) C i) : WIv K M C V nb ns B (mkB lost n (n + 1)) out cut R' where
  sz := fun v hv => by
    by_cases e : v = u
    · subst e; rw [hz]; exact h.sz v hv
    · rw [ho v e]; exact h.sz v hv
  lo := h.lo
  hi := h.hi
  asw := fun v hv i hi hl => by
    obtain ⟨l1, l2⟩ := mkB_old hl
    by_cases e : v = u
    · subst e; rw [hp i (fun e => l2 (by omega))]; exact h.asw v hv i hi l1
    · rw [ho v e]; exact h.asw v hv i hi l1
  ct := fun v hv x a b => mkB_up (h.ct v hv x a b)
  ou := fun v hv o x a b => mkB_up (h.ou v hv o x a b)
  few := hm
  left := h.left
theorem WIv.cuts (h : WIv K M C V nb ns B lost out cut R) {v f : Nat} (h1 : v * nb / V ≤ f) (h2 : f ≤ (v + 1) * nb / V) (hm : May K M ns lost f ((v + 1) * nb / V)) : WIv K M C V nb ns B (mkB lost f ((v + 1) * nb / V)) out (updC cut v f) R where
  sz := h.sz
  lo := fun u hu => by unfold updC; split; (· rename_i e; subst e; exact h1); exact h.lo u hu
  hi := fun u hu => by unfold updC; split; (· rename_i e; subst e; exact h2); exact h.hi u hu
  asw := fun u hu i hi hl => h.asw u hu i hi (mkB_old hl).1
  ct := fun u hu x a b => by
    unfold updC at a
    by_cases e : u = v
    · subst e; rw [if_pos rfl] at a; exact mkB_in a b
    · rw [if_neg e] at a; exact mkB_up (h.ct u hu x a b)
  ou := fun u hu o x a b => mkB_up (h.ou u hu o x a b)
  few := hm
  left := h.left
theorem WIv.outs (h : WIv K M C V nb ns B lost out cut R) {v : Nat} (hm : May K M ns lost (v * nb / V) ((v + 1) * nb / V)) (hl : (∃ u, u < V ∧ u ≠ v ∧ out u = false) ∨ out v = true) : WIv K M C V nb ns B (mkB lost (v * nb / V) ((v + 1) * nb / V)) (updB out v true) cut R where
  sz := h.sz
  lo := h.lo
  hi := h.hi
  asw := fun u hu i hi hl => h.asw u hu i hi (mkB_old hl).1
  ct := fun u hu x a b => mkB_up (h.ct u hu x a b)
  ou := fun u hu o x a b => by
    unfold updB at o
    by_cases e : u = v
    · subst e; exact mkB_in a b
    · rw [if_neg e] at o; exact mkB_up (h.ou u hu o x a b)
  few := hm
  left := by
    rcases hl with ⟨u, hu, hne, ho⟩ | ho
    · exact ⟨u, hu, by unfold updB; rw [if_neg hne]; exact ho⟩
    · obtain ⟨u, hu, h0⟩ := h.left
      refine ⟨u, hu, ?_⟩
      unfold updB
      rw [if_neg (fun e => by rw [e, ho] at h0; cases h0)]
      exact h0
end
/-- nothing is lost so far -/
theorem VOk.wi {K M C V nb : Nat} {es : List (ByteArray × Nat)} {s : ByteArray} (h : VOk K M C V nb es s) (ns : Nat) : WIv K M C V nb ns (bkT K M C s) (fun _ => false) (fun _ => false) (fun v => (v + 1) * nb / V) (reE K M C V s) where
  sz := fun v hv => (h.rest hv).1
  lo := fun v _ => Nat.div_le_div_right (Nat.mul_le_mul_right _ (by omega))
  hi := fun v _ => Nat.le_refl _
  asw := fun v hv i hi _ => (h.rest hv).2 i (by omega)
  ct := fun v hv x a b => absurd b (by omega)
  ou := fun v hv o => by cases o
  few := fun s _ => by rw [cnt_none _ _ (fun _ _ => rfl)]; omega
  left := ⟨0, h.lok.v1, rfl⟩
/-- which volumes are left -/
def kpL (out : Nat → Bool) (V : Nat) : List Nat := (List.range V).filter (fun v => !out v)
theorem kpL_succ (out : Nat → Bool) (i : Nat) : kpL out (i + 1) = kpL out i ++ (if out i = true then [] else [i]) := by
  unfold kpL
  rw [List.range_succ, List.filter_append]
  cases h : out i <;> simp [h]
theorem kpL_mem {out : Nat → Bool} {V v : Nat} : v ∈ kpL out V ↔ v < V ∧ out v = false := by
  unfold kpL
  simp [List.mem_filter]
theorem kpL_nodup (out : Nat → Bool) (V : Nat) : (kpL out V).Nodup := List.Pairwise.filter _ List.nodup_range
theorem kpL_len (out : Nat → Bool) (V : Nat) : (kpL out V).length ≤ V := by
  unfold kpL
  exact Nat.le_trans (List.length_filter_le _ _) (by simp)
theorem pc_take {t : ByteArray} {C k i : Nat} (h : i < k) : pc (t.extract 0 (k * C)) C i = pc t C i := by
  apply ba_ext
  unfold pc
  have h1 : (i + 1) * C ≤ k * C := Nat.mul_le_mul_right _ h
  have h2 : i * C ≤ (i + 1) * C := Nat.mul_le_mul_right _ (by omega)
  rw [ext_list, ext_list, ext_list, Nat.sub_zero, List.drop_zero, List.drop_take, List.take_take, Nat.min_eq_left (by omega)]
/-- a text with another in the place of a part -/
def wBk (t : ByteArray) (k : Nat) (z : ByteArray) : ByteArray := t.extract 0 k ++ z ++ t.extract (k + z.size) t.size
def updT (L : Nat → ByteArray) (u : Nat) (t : ByteArray) : Nat → ByteArray := fun j => if j = u then t else L j
theorem wBk_list (t : ByteArray) (k : Nat) (z : ByteArray) : (wBk t k z).data.toList = t.data.toList.take k ++ z.data.toList ++ t.data.toList.drop (k + z.data.toList.length) := by
  unfold wBk
  rw [app_list, app_list, ext_list, ext_list, List.drop_zero, Nat.sub_zero, dl]
  congr 1
  rw [List.take_of_length_le]
  rw [List.length_drop, dl]
  omega
theorem wBk_size {t : ByteArray} {k : Nat} {z : ByteArray} (h : k + z.size ≤ t.size) : (wBk t k z).size = t.size := by
  rw [← dl, wBk_list]
  simp only [List.length_append, List.length_take, List.length_drop, dl]
  omega
theorem wBk_hd (hd R : ByteArray) (k : Nat) (z : ByteArray) : wBk (hd ++ R) (hd.size + k) z = hd ++ wBk R k z := by
  apply ba_ext
  rw [wBk_list, app_list, app_list, wBk_list]
  rw [← dl hd, List.take_length_add_append, Nat.add_assoc, List.drop_length_add_append]
  simp only [List.append_assoc]
theorem wBk_pc {t : ByteArray} {C i j : Nat} {z : ByteArray} (hz : z.size = C) (hj : j * C + C ≤ t.size) (hne : i ≠ j) : pc (wBk t (j * C) z) C i = pc t C i := by
  apply ba_ext
  unfold pc
  rw [ext_list, ext_list, wBk_list]
  have hzl : z.data.toList.length = C := by rw [dl]; exact hz
  have htl : t.data.toList.length = t.size := dl _
  apply List.ext_getElem?
  intro r
  rw [Nat.succ_mul, Nat.add_sub_cancel_left, List.getElem?_take, List.getElem?_take]
  by_cases hr : r < C
  · rw [if_pos hr, if_pos hr, List.getElem?_drop, List.getElem?_drop]
    rcases Nat.lt_or_gt_of_ne hne with h | h
    · have h1 : (i + 1) * C ≤ j * C := Nat.mul_le_mul_right _ h
      rw [Nat.succ_mul] at h1
      rw [List.append_assoc, List.getElem?_append_left (by rw [List.length_take]; omega), List.getElem?_take, if_pos (by omega)]
    · have h1 : (j + 1) * C ≤ i * C := Nat.mul_le_mul_right _ h
      rw [Nat.succ_mul] at h1
      rw [List.getElem?_append_right (by rw [List.length_append, List.length_take]; omega), List.getElem?_drop, List.length_append, List.length_take, hzl, htl, Nat.min_eq_left (by omega)]
      congr 1
      omega
  · rw [if_neg hr, if_neg hr]
/-- what a loss does -/
def Tk (K M C V ns nb : Nat) (pl : Nat → Nat) (lost out : Nat → Bool) (cut : Nat → Nat) (L : Nat → ByteArray) (lost' out' : Nat → Bool) (cut' : Nat → Nat) (L' : Nat → ByteArray) : Prop :=
  (lost' = lost ∧ out' = out ∧ cut' = cut ∧ L' = L) ∨
  (∃ n u z, u < V ∧ u * nb / V ≤ n ∧ n < (u + 1) * nb / V ∧ z.size = C ∧ May K M ns lost n (n + 1) ∧ lost' = mkB lost n (n + 1) ∧ out' = out ∧ cut' = cut ∧ L' = updT L u (wBk (L u) (pl u + (n - u * nb / V) * C) z)) ∨
  (∃ v f, v < V ∧ v * nb / V ≤ f ∧ f ≤ (v + 1) * nb / V ∧ May K M ns lost f ((v + 1) * nb / V) ∧ lost' = mkB lost f ((v + 1) * nb / V) ∧ out' = out ∧ cut' = updC cut v f ∧ L' = L) ∨
  (∃ v, v < V ∧ May K M ns lost (v * nb / V) ((v + 1) * nb / V) ∧ ((∃ u, u < V ∧ u ≠ v ∧ out u = false) ∨ out v = true) ∧ lost' = mkB lost (v * nb / V) ((v + 1) * nb / V) ∧ out' = updB out v true ∧ cut' = cut ∧ L' = L)
theorem WIv.tk {K M C V nb ns : Nat} {B : Nat → ByteArray} {pl : Nat → Nat} {lost out : Nat → Bool} {cut : Nat → Nat} {L : Nat → ByteArray} {lost' out' : Nat → Bool} {cut' : Nat → Nat} {L' R hd : Nat → ByteArray} (h : WIv K M C V nb ns B lost out cut R) (hL : ∀ v, v < V → L v = hd v ++ R v) (hpl : ∀ v, v < V → pl v = (hd v).size) (ht : Tk K M C V ns nb pl lost out cut L lost' out' cut' L') :
    ∃ R', WIv K M C V nb ns B lost' out' cut' R' ∧ ∀ v, v < V → L' v = hd v ++ R' v := by
  rcases ht with ⟨rfl, rfl, rfl, rfl⟩ | ⟨n, u, z, hu, h1, h2, hz, hm, rfl, rfl, rfl, rfl⟩ | ⟨v, f, hv, h1, h2, hm, rfl, rfl, rfl, rfl⟩ | ⟨v, hv, hm, ho, rfl, rfl, rfl, rfl⟩
  · exact ⟨R, h, hL⟩
  · have hfit : (n - u * nb / V) * C + C ≤ (R u).size := by
      rw [h.sz u hu, ← Nat.succ_mul]
      exact Nat.mul_le_mul_right _ (by omega)
    refine ⟨updT R u (wBk (R u) ((n - u * nb / V) * C) z), h.zero h1 hm (fun v hv => if_neg hv) ?_ ?_, fun v hv => ?_⟩
    · unfold updT
      rw [if_pos rfl]
      exact wBk_size (by rw [hz]; exact hfit)
    · intro i hi
      unfold updT
      rw [if_pos rfl]
      exact wBk_pc hz hfit hi
    · unfold updT
      by_cases e : v = u
      · subst e
        rw [if_pos rfl, if_pos rfl, hL v hv, hpl v hv, wBk_hd]
      · rw [if_neg e, if_neg e]; exact hL v hv
  · exact ⟨R, h.cuts h1 h2 hm, hL⟩
  · exact ⟨R, h.outs hm ho, hL⟩
theorem mkB_nil (lost : Nat → Bool) (a : Nat) : mkB lost a a = lost := by
  funext x
  unfold mkB
  by_cases h : a ≤ x
  · rw [decide_eq_true h, decide_eq_false (by omega : ¬ x < a)]; simp
  · rw [decide_eq_false h]; simp
theorem mkB_step {lost : Nat → Bool} {a b : Nat} (h : a ≤ b) : updB (mkB lost a b) b true = mkB lost a (b + 1) := by
  funext x
  unfold updB mkB
  by_cases e : x = b
  · subst e; rw [if_pos rfl, decide_eq_true h, decide_eq_true (by omega : x < x + 1)]; simp
  · rw [if_neg e]
    by_cases h1 : x < b
    · rw [decide_eq_true h1, decide_eq_true (by omega : x < b + 1)]
    · rw [decide_eq_false h1, decide_eq_false (by omega : ¬ x < b + 1)]
theorem ext_hd (hd R : ByteArray) (k : Nat) : (hd ++ R).extract 0 (hd.size + k) = hd ++ R.extract 0 k := by
  apply ba_ext
  rw [ext_list, app_list, app_list, ext_list, List.drop_zero, List.drop_zero, Nat.sub_zero, Nat.sub_zero, ← dl hd, List.take_length_add_append]
theorem bk_hd (hd R : ByteArray) (C i : Nat) : (hd ++ R).extract (hd.size + i * C) (hd.size + i * C + C) = pc R C i := by
  apply ba_ext
  unfold pc
  rw [ext_list, app_list, ext_list, ← dl hd, List.drop_length_add_append, Nat.add_sub_cancel_left, Nat.succ_mul, Nat.add_sub_cancel_left]
def mayB (K M ns : Nat) (lost : Nat → Bool) (a b : Nat) : Bool := (List.range ns).all (fun s => decide (cnt (fun i => mkB lost a b (s * (K + M) + i)) (K + M) ≤ M))
theorem mayB_yes {K M ns : Nat} {lost : Nat → Bool} {a b : Nat} (h : May K M ns lost a b) : mayB K M ns lost a b = true := by
  unfold mayB
  rw [List.all_eq_true]
  exact fun s hs => decide_eq_true (h s (List.mem_range.1 hs))
theorem mayB_no {K M ns : Nat} {lost : Nat → Bool} {a b s : Nat} (hs : s < ns) (h : M < cnt (fun i => mkB lost a b (s * (K + M) + i)) (K + M)) : mayB K M ns lost a b = false := by
  unfold mayB
  rw [List.all_eq_false]
  exact ⟨s, List.mem_range.2 hs, by rw [decide_eq_false (by omega)]; simp⟩
theorem mayB_may {K M ns : Nat} {lost : Nat → Bool} {a b : Nat} (h : mayB K M ns lost a b = true) : May K M ns lost a b := fun s hs => by
  unfold mayB at h
  rw [List.all_eq_true] at h
  exact of_decide_eq_true (h s (List.mem_range.2 hs))
theorem cnt_le (h : Nat → Bool) (n : Nat) : cnt h n ≤ n := by have := cnt_not h n; omega
/-- all that is true of what is left, when it was opened -/
structure Ers (kt : Nat → Int) (F : Nat → Ob) (q K M C V : Nat) (s : OS) (t0 : ByteArray) : Prop where
  un : s.un = []
  T : ∃ v l, Tld (tT t0) K M C V v (esF F q) (rtE kt K M C V (esF F q) (smF F q)) (lsE K M C V (esF F q)) (lvE kt K M C (smF F q)) l
  st : ∀ i, i < (tT t0).L.ns → stF kt (tT t0) s.bl i = 0
  obj : ∀ j, j < q → unO kt (tT t0) s.bl j = F j
  re : ∀ dn : Nat → Bool, (∀ i, i < (tT t0).L.ns → dn i = true) → ∀ v, v < V → reV kt (tT t0) (blD kt (tT t0) s.bl dn) v = voT kt K M C V (datOf F q) (nmF F q) v
theorem erased_plain {kt : Nat → Int} {F : Nat → Ob} {q K M C V : Nat} (hS : Srt q F) (hK1 : 1 ≤ K) (hK2 : K ≤ 5) (hM : M ≤ 3) (hC1 : 1 ≤ C) (hC2 : C ≤ 8) (hV1 : 1 ≤ V) (hV2 : V ≤ 5) (hq : q ≤ 5) {lost out : Nat → Bool} {cut : Nat → Nat} {R : Nat → ByteArray} (hW : WIv K M C V (nbT K M C (smF F q)) (nst (K * C) (smF F q).size) (bkT K M C (smF F q)) lost out cut R)
    (hno : ∀ v i, v < V → v * nbT K M C (smF F q) / V + i < (v + 1) * nbT K M C (smF F q) / V → leafT (ofT kt) (bkT K M C (smF F q) (v * nbT K M C (smF F q) / V + i)) = leafT (ofT kt) (pc (R v) C i) → bkT K M C (smF F q) (v * nbT K M C (smF F q) / V + i) = pc (R v) C i)
    {H : Nat → ByteArray} {m : Nat} (hm : m = (kpL out V).length) (hp : (texL H m).Perm ((kpL out V).map (fun v => hdE kt K M C V (esF F q) (smF F q) v ++ (R v).extract 0 ((cut v - v * nbT K M C (smF F q) / V) * C)))) {rt : ByteArray} (hrt : rt = ⟨#[]⟩ ∨ rt = rtT kt K M C V (datOf F q) (nmF F q)) :
    (∃ s t0, Opn kt rt H m s t0) ∧ ∀ s t0, Opn kt rt H m s t0 → Ers kt F q K M C V s t0 := by
  have h := srt_ok hS hK1 hK2 hM hC1 hC2 hV1 hV2 hq
  rw [rt_eq hS] at hrt
  have hL : ∀ v, voT kt K M C V (datOf F q) (nmF F q) v = hdE kt K M C V (esF F q) (smF F q) v ++ reE K M C V (smF F q) v := fun v => vo_eq hS kt K M C V v
  have hc0 := h.ct
  have hc5 := h.c512
  obtain ⟨nb, hnb⟩ : ∃ nb, nbT K M C (smF F q) = nb := ⟨_, rfl⟩
  rw [hnb] at h hW hno hp hc0 hc5
  obtain ⟨N0, hN0⟩ : ∃ N0 : Nat → Nat, N0 = fun j => (kpL out V).getD j 0 := ⟨_, rfl⟩
  have hNi : ∀ j, j < m → ∃ hj : j < (kpL out V).length, N0 j = (kpL out V)[j] := fun j hj => ⟨by omega, by
    rw [hN0]
    show (kpL out V).getD j 0 = _
    rw [List.getD_eq_getElem?_getD, List.getElem?_eq_getElem (by omega)]; rfl⟩
  have hNm : ∀ j, j < m → N0 j < V ∧ out (N0 j) = false := fun j hj => by
    obtain ⟨h1, h2⟩ := hNi j hj
    rw [h2]
    exact kpL_mem.1 (List.getElem_mem h1)
  have hNe : ∀ j k, j < m → k < m → j ≠ k → N0 j ≠ N0 k := fun j k hj hk hne e => by
    obtain ⟨a1, a2⟩ := hNi j hj
    obtain ⟨b1, b2⟩ := hNi k hk
    rw [a2, b2] at e
    rcases Nat.lt_or_gt_of_ne hne with h1 | h1
    · exact List.pairwise_iff_getElem.1 (kpL_nodup out V) j k a1 b1 h1 e
    · exact List.pairwise_iff_getElem.1 (kpL_nodup out V) k j b1 a1 h1 e.symm
  have hNs : ∀ v, v < V → out v = false → ∃ j, j < m ∧ N0 j = v := fun v hv ho => by
    obtain ⟨j, hj, e⟩ := List.getElem_of_mem (kpL_mem.2 ⟨hv, ho⟩)
    refine ⟨j, by omega, ?_⟩
    obtain ⟨a1, a2⟩ := hNi j (by omega)
    rw [a2]; exact e
  obtain ⟨R2, hR2⟩ : ∃ R2 : Nat → ByteArray, R2 = fun v => (R v).extract 0 ((cut v - v * nb / V) * C) := ⟨_, rfl⟩
  have hp2 : (texL H m).Perm (texL (fun j => hdE kt K M C V (esF F q) (smF F q) (N0 j) ++ R2 (N0 j)) m) := by
    refine hp.trans (List.Perm.of_eq ?_)
    apply List.ext_getElem
    · simp [texL, hm]
    · intro j h1 h2
      have hj : j < m := by simpa [texL] using h2
      obtain ⟨a1, a2⟩ := hNi j hj
      simp only [texL, List.getElem_map, List.getElem_range]
      rw [a2, hR2]
  obtain ⟨P, n1, n2, n3⟩ := perm_part hp2 (fun u v hu hv hne => h.inj kt R2 (N0 u) (N0 v) (hNm u hu).1 (hNm v hv).1 (hNe u v hu hv hne))
  have hms : ∀ v, v < V → (R2 v).size = (cut v - v * nb / V) * C := fun v hv => by
    have e1 := hW.sz v hv
    have e2 := hW.hi v hv
    have e3 : (cut v - v * nb / V) * C ≤ ((v + 1) * nb / V - v * nb / V) * C := Nat.mul_le_mul_right _ (by omega)
    rw [hR2]
    show ((R v).extract 0 _).size = _
    rw [ByteArray.size_extract]
    omega
  have p : Part kt K M C V nb (esF F q) (smF F q) H m (fun j => N0 (P j)) (fun j => R2 (N0 (P j))) :=
    ⟨fun j hj => (n1 j hj).2, fun j hj => (hNm _ (n1 j hj).1).1, fun j hj => by
      have hv := (hNm _ (n1 j hj).1).1
      show (R2 (N0 (P j))).size ≤ _
      rw [hms _ hv]
      exact Nat.mul_le_mul_right _ (by have := hW.hi _ hv; omega), fun j k hj hk hne => hNe _ _ (n1 j hj).1 (n1 k hk).1 (n2 j k hj hk hne)⟩
  have hs3 : ∀ v, v < V → out v = false → ∃ j, j < m ∧ N0 (P j) = v := fun v hv ho => by
    obtain ⟨k, hk, e⟩ := hNs v hv ho
    obtain ⟨j, hj, e2⟩ := n3 k hk
    exact ⟨j, hj, by rw [e2, e]⟩
  have hm0 : 0 < m := by
    obtain ⟨v, hv, ho⟩ := hW.left
    obtain ⟨j, hj, _⟩ := hs3 v hv ho
    omega
  have hG := p.good h hrt
  have hrun := good_run m hG
  have hsz : rt.size = 0 ∨ rt.size = 32 := by
    rcases hrt with e | e
    · left; rw [e]; rfl
    · right; rw [e]; exact ofT_size _ _
  -- a block that is not lost is there
  have hin : ∀ x, x < nb → ∃ v, v < V ∧ v * nb / V ≤ x ∧ x < (v + 1) * nb / V := fun x hx => in_range nb V x V (by rw [Nat.mul_div_cancel_left _ hV1]; exact hx)
  have hthere : ∀ v x, v < V → v * nb / V ≤ x → x < (v + 1) * nb / V → out v = false → x < cut v → blL H m x = pc (R v) C (x - v * nb / V) := fun v x hv h1 h2 ho hcx => by
    obtain ⟨j, hj, e⟩ := hs3 v hv ho
    have := p.bl h (j := j) (i := x - v * nb / V) hj (by
      show _ < (R2 (N0 (P j))).size / C
      rw [e, hms v hv, Nat.mul_div_cancel _ hC1]; omega)
    have this' : blL H m (N0 (P j) * nb / V + (x - v * nb / V)) = pc (R2 (N0 (P j))) C (x - v * nb / V) := this
    rw [e, show v * nb / V + (x - v * nb / V) = x by omega] at this'
    rw [this', hR2]
    exact pc_take (by omega)
  have hgone : ∀ v x, v < V → v * nb / V ≤ x → x < (v + 1) * nb / V → ¬ (out v = false ∧ x < cut v) → blL H m x = ⟨#[]⟩ := fun v x hv h1 h2 hn => by
    refine p.no h (fun j hj => ?_)
    show ¬ (N0 (P j) * nb / V ≤ x ∧ x < N0 (P j) * nb / V + (R2 (N0 (P j))).size / C)
    obtain ⟨hu, huo⟩ := hNm _ (n1 j hj).1
    have hlo := hW.lo _ hu
    have hhi := hW.hi _ hu
    rw [hms _ hu, Nat.mul_div_cancel _ hC1]
    generalize N0 (P j) = u at hu huo hlo hhi ⊢
    rintro ⟨b1, b2⟩
    have hue : u = v := by
      rcases Nat.lt_trichotomy u v with e | e | e
      · have := rng_mono (cnt := nb) (V := V) e; omega
      · exact e
      · have := rng_mono (cnt := nb) (V := V) e; omega
    subst hue
    exact hn ⟨huo, by omega⟩
  have hmain : ∀ x, x < nb → (lost x = false → blL H m x = bkT K M C (smF F q) x) ∧ (goodB kt C (lvE kt K M C (smF F q)) x (blL H m x) = true → blL H m x = bkT K M C (smF F q) x) := fun x hx => by
    obtain ⟨v, hv, h1, h2⟩ := hin x hx
    have ex : v * nb / V + (x - v * nb / V) = x := by omega
    by_cases ht : out v = false ∧ x < cut v
    · have hb := hthere v x hv h1 h2 ht.1 ht.2
      refine ⟨fun hl => ?_, fun hg => ?_⟩
      · have := hW.asw v hv (x - v * nb / V) (by omega) (by rw [ex]; exact hl)
        rw [hb, this, ex]
      · unfold goodB at hg
        have hg2 := (of_decide_eq_true hg).2
        rw [lv_pc kt K M C (smF F q) (by rw [hnb]; exact hx)] at hg2
        have := hno v (x - v * nb / V) hv (by omega) (by rw [ex, ← hb]; exact hg2.symm)
        rw [ex] at this
        rw [hb, this]
    · have hb := hgone v x hv h1 h2 ht
      refine ⟨fun hl => ?_, fun hg => ?_⟩
      · exfalso
        by_cases ho : out v = true
        · rw [hW.ou v hv ho x h1 h2] at hl; cases hl
        · have ho' : out v = false := by simpa using ho
          have := hW.ct v hv x (Nat.le_of_not_lt (fun e => ht ⟨ho', e⟩)) h2
          rw [this] at hl; cases hl
      · unfold goodB at hg
        have hg1 := (of_decide_eq_true hg).1
        rw [hb] at hg1
        have : (⟨#[]⟩ : ByteArray).size = 0 := rfl
        omega
  refine ⟨⟨stO H m, H 0, hsz, hrun, by unfold stO; rw [if_neg (by omega)]⟩, ?_⟩
  rintro s t0 ⟨_, hr, hh⟩
  rw [hrun] at hr
  obtain rfl : stO H m = s := Except.ok.inj hr
  obtain rfl : H 0 = t0 := by unfold stO at hh; rw [if_neg (by omega)] at hh; exact Option.some.inj hh
  have hT := p.tld h (j := 0) hm0
  have hT' : Tld (tT (H 0)) K M C V (N0 (P 0)) (esF F q) _ _ _ _ := hT
  have hns : (tT (H 0)).L.ns = nst (K * C) (smF F q).size := by
    unfold LT.ns; rw [hT'.K, hT'.C, hT'.es, h.len]
  have hn : (tT (H 0)).n = K + M := by
    unfold TT.n; rw [hT'.K, hT'.M]
  have hxlt : ∀ st i, st < nst (K * C) (smF F q).size → i < K + M → st * (K + M) + i < nb := fun st i hst hi => by
    have h1 : (st + 1) * (K + M) ≤ nst (K * C) (smF F q).size * (K + M) := Nat.mul_le_mul_right _ hst
    rw [h.ct, Nat.succ_mul] at h1
    omega
  have hw : ∀ st, st < nst (K * C) (smF F q).size → stF kt (tT (H 0)) (blL H m) st = 0 ∧ ∀ i, i < K + M → stM kt (tT (H 0)) (blL H m) st i = bkT K M C (smF F q) (st * (K + M) + i) := fun st hst => by
    have hHe : ∀ i, stH kt (tT (H 0)) (blL H m) st i = goodB kt C (lvE kt K M C (smF F q)) (st * (K + M) + i) (blL H m (st * (K + M) + i)) := fun i => by
      unfold stH; rw [hn, hT'.C, hT'.lv]
    refine h.stripe hT hst (fun i hi hg => ?_) ?_
    · rw [hHe] at hg
      exact (hmain _ (hxlt st i hst hi)).2 hg
    · have hf := hW.few st hst
      have hnot := cnt_not (fun i => lost (st * (K + M) + i)) (K + M)
      have hle : cnt (fun j => !lost (st * (K + M) + j)) (K + M) ≤ cnt (stH kt (tT (H 0)) (blL H m) st) (K + M) := cnt_mono _ (fun j hj hl => by
        have hl' : lost (st * (K + M) + j) = false := by simpa using hl
        rw [hHe, (hmain _ (hxlt st j hst hj)).1 hl']
        unfold goodB
        rw [lv_pc kt K M C (smF F q) (by rw [hnb]; exact hxlt st j hst hj)]
        exact decide_eq_true ⟨h.bk (hxlt st j hst hj), rfl⟩)
      omega
  have hst0 : ∀ i, i < (tT (H 0)).L.ns → stF kt (tT (H 0)) (blL H m) i = 0 := fun i hi => (hw i (by rw [← hns]; exact hi)).1
  refine ⟨rfl, ⟨_, _, hT⟩, hst0, fun j hj => ?_, fun dn hd v hv => ?_⟩
  · refine un_one hj hT.es (fun x h1 h2 => ?_)
    have hlen : lenE ((esF F q).take j) + (F j).2.size ≤ (smF F q).size := by
      have e := take_len (esF F q) j (by rw [esF_len]; exact hj)
      rw [(esF_get F q j hj).2] at e
      rw [sm_size, ← e]
      exact lenE_take_le _ _
    have hx : x / (K * C) < nst (K * C) (smF F q).size := by
      rw [Nat.div_lt_iff_lt_mul h.z]
      exact Nat.lt_of_lt_of_le (Nat.lt_of_lt_of_le h2 hlen) (nst_le _ _ h.z)
    exact h.byte (T := tT (H 0)) hT hx (fun i hi => (hw _ hx).2 i (by omega))
  · rw [hL v]
    refine h.remade (T := tT (H 0)) hT (fun x hx => ?_) hv
    have hx' : x < (tT (H 0)).L.cnt := by rw [p.ct h hm0]; exact hx
    have hn0 : 0 < (tT (H 0)).n := by rw [hn]; exact h.n
    obtain ⟨e1, e2⟩ := blD_all (kt := kt) (bl := blL H m) hn0 hd hst0 hx'
    have e3 : blD kt (tT (H 0)) (blL H m) dn x = bkT K M C (smF F q) x := by
      rw [e1, (hw _ (by rw [← hns]; exact e2)).2 _ (by rw [← hn]; exact Nat.mod_lt _ hn0), hn]
      congr 1
      rw [Nat.mul_comm]; exact Nat.div_add_mod x _
    exact e3
end Go.Proofs.YtadinjaocnlglaaGreatDoor
