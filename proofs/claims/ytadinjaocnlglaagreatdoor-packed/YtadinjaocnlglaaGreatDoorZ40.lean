/-
  Plain: where all blocks are good, the volumes are made as they were.
  stock.Open at a nil list, and at a root of another size.
  A Vault: its calls behind the lock.
-/
import Derived.Test.YtadinjaocnlglaaGreatDoorZ39
import Derived.Test.YtadinjaocnlglaaGreatDoorZ31
import Derived.Test.YtadinjaocnlglaaGreatDoorZ19
namespace Go.Proofs.YtadinjaocnlglaaGreatDoor
open Go.RowKit
set_option maxRecDepth 100000
set_option maxHeartbeats 1000000
theorem jL_pc (t : ByteArray) (c : Nat) : ∀ k, jL (pc t c) k = t.data.toList.take (k * c)
  | 0 => by simp [jL]
  | k + 1 => by
    have e : jL (pc t c) (k + 1) = jL (pc t c) k ++ (pc t c k).data.toList := by simp [jL, List.range_succ]
    rw [e, jL_pc t c k]
    unfold pc
    rw [ext_list, Nat.succ_mul, Nat.add_sub_cancel_left, List.take_add]
theorem jT_pc (t : ByteArray) (c k : Nat) (h : t.size = k * c) : jT (pc t c) k = t := by
  apply ba_ext
  show jL (pc t c) k = _
  rw [jL_pc, List.take_of_length_le]
  rw [dl]; omega
theorem jT_congr {F G : Nat → ByteArray} {n : Nat} (h : ∀ i, i < n → F i = G i) : jT F n = jT G n := by
  apply ba_ext
  show jL F n = jL G n
  unfold jL
  congr 1
  apply List.map_congr_left
  intro i hi
  rw [h i (List.mem_range.1 hi)]
/-- where a block lies -/
theorem in_range (cnt V x : Nat) : ∀ u, x < u * cnt / V → ∃ v, v < u ∧ v * cnt / V ≤ x ∧ x < (v + 1) * cnt / V
  | 0, h => by simp at h
  | u + 1, h => by
    by_cases hx : x < u * cnt / V
    · obtain ⟨v, h1, h2, h3⟩ := in_range cnt V x u hx
      exact ⟨v, by omega, h2, h3⟩
    · exact ⟨u, by omega, by omega, h⟩
theorem rng_mono {cnt V u v : Nat} (h : u < v) : (u + 1) * cnt / V ≤ v * cnt / V := Nat.div_le_div_right (Nat.mul_le_mul_right _ h)
theorem rng_fit {kt : Nat → Int} {t : ByteArray} (h : rdE kt t = none) : (tT t).num < (tT t).L.V ∧ nB t ≤ ((tT t).num + 1) * (tT t).L.cnt / (tT t).L.V - (tT t).first ∧ (tRest t).size ≤ (((tT t).num + 1) * (tT t).L.cnt / (tT t).L.V - (tT t).first) * (tT t).L.C := by
  obtain ⟨_, h1, h2⟩ := rd_none h
  have hT : Told1 (tT t) := ck_ok h1
  have h3 : (tRest t).size ≤ (((tT t).num + 1) * (tT t).L.cnt / (tT t).L.V - (tT t).first) * (tT t).L.C := h2
  refine ⟨hT.num, ?_, h3⟩
  unfold nB
  exact Nat.le_trans (Nat.div_le_div_right h3) (by rw [Nat.mul_div_cancel _ hT.c1]; exact Nat.le_refl _)
theorem bl_out {L : Nat → ByteArray} {x : Nat} : ∀ n, (∀ j, j < n → ¬ ((tT (L j)).first ≤ x ∧ x < (tT (L j)).first + nB (L j))) → blL L n x = ⟨#[]⟩
  | 0, _ => rfl
  | n + 1, h => by
    rw [blL]
    unfold laid
    rw [if_neg (h n (by omega))]
    exact bl_out n (fun j hj => h j (by omega))
/-- volumes of one vault share its params -/
structure One (kt : Nat → Int) (L : Nat → ByteArray) (n K M C V cnt : Nat) (es : List (ByteArray × Nat)) (root lst lv : ByteArray) : Prop where
  rd : ∀ j, j < n → rdE kt (L j) = none
  K : ∀ j, j < n → (tT (L j)).L.K = K
  M : ∀ j, j < n → (tT (L j)).L.M = M
  C : ∀ j, j < n → (tT (L j)).L.C = C
  V : ∀ j, j < n → (tT (L j)).L.V = V
  es : ∀ j, j < n → (tT (L j)).L.es = es
  cnt : ∀ j, j < n → (tT (L j)).L.cnt = cnt
  root : ∀ j, j < n → (tT (L j)).root = root
  lst : ∀ j, j < n → (tT (L j)).lst = lst
  lv : ∀ j, j < n → (tT (L j)).lv = lv
  ne : ∀ j k, j < n → k < n → j ≠ k → (tT (L j)).num ≠ (tT (L k)).num
theorem GoodL.one {kt : Nat → Int} {rt : ByteArray} {L : Nat → ByteArray} {n : Nat} (h : GoodL kt rt L n) (hn : 0 < n) : One kt L n (tT (L 0)).L.K (tT (L 0)).L.M (tT (L 0)).L.C (tT (L 0)).L.V (tT (L 0)).L.cnt (tT (L 0)).L.es (tT (L 0)).root (tT (L 0)).lst (tT (L 0)).lv := by
  have f := fun j (hj : j < n) => same3_L (h 0 hn).1 (h j hj).1 (h j hj).2.1
  refine ⟨fun j hj => (f j hj).2.2, fun j hj => (f j hj).1.K, fun j hj => (f j hj).1.M, fun j hj => (f j hj).1.C, fun j hj => (f j hj).1.V, fun j hj => (f j hj).1.es, fun j hj => (f j hj).1.cnt, fun j hj => (h j hj).2.1.1.symm, fun j hj => (h j hj).2.1.2.1.symm, fun j hj => (h j hj).2.1.2.2.symm, fun j k hj hk hne => ?_⟩
  rcases Nat.lt_or_ge j k with hlt | hge
  · exact (h k hk).2.2 j hlt
  · exact ((h j hj).2.2 k (by omega)).symm
theorem One.first {kt : Nat → Int} {L : Nat → ByteArray} {n K M C V cnt : Nat} {es : List (ByteArray × Nat)} {root lst lv : ByteArray} (h : One kt L n K M C V cnt es root lst lv) {j : Nat} (hj : j < n) : (tT (L j)).first = (tT (L j)).num * cnt / V := by
  unfold TT.first; rw [h.cnt j hj, h.V j hj]
theorem One.apart {kt : Nat → Int} {L : Nat → ByteArray} {n K M C V cnt : Nat} {es : List (ByteArray × Nat)} {root lst lv : ByteArray} (h : One kt L n K M C V cnt es root lst lv) {j k x : Nat} (hj : j < n) (hk : k < n) (hjk : j ≠ k) (h1 : (tT (L j)).num * cnt / V ≤ x) (h2 : x < ((tT (L j)).num + 1) * cnt / V) : ¬ ((tT (L k)).first ≤ x ∧ x < (tT (L k)).first + nB (L k)) := by
  rintro ⟨h3, h4⟩
  have hf := rng_fit (h.rd k hk)
  rw [h.first hk] at h3 h4
  rw [h.first hk, h.cnt k hk, h.V k hk] at hf
  have hle : (tT (L k)).num * cnt / V ≤ ((tT (L k)).num + 1) * cnt / V := Nat.div_le_div_right (Nat.mul_le_mul_right _ (by omega))
  have hne := h.ne j k hj hk hjk
  rcases Nat.lt_or_ge (tT (L j)).num (tT (L k)).num with hlt | hge
  · have := rng_mono (cnt := cnt) (V := V) hlt
    omega
  · have := rng_mono (cnt := cnt) (V := V) (show (tT (L k)).num < (tT (L j)).num by omega)
    omega
theorem One.less {kt : Nat → Int} {L : Nat → ByteArray} {n m K M C V cnt : Nat} {es : List (ByteArray × Nat)} {root lst lv : ByteArray} (h : One kt L n K M C V cnt es root lst lv) (hm : m ≤ n) : One kt L m K M C V cnt es root lst lv :=
  ⟨fun j hj => h.rd j (by omega), fun j hj => h.K j (by omega), fun j hj => h.M j (by omega), fun j hj => h.C j (by omega), fun j hj => h.V j (by omega), fun j hj => h.es j (by omega), fun j hj => h.cnt j (by omega), fun j hj => h.root j (by omega), fun j hj => h.lst j (by omega), fun j hj => h.lv j (by omega), fun j k hj hk => h.ne j k (by omega) (by omega)⟩
theorem bl_in {kt : Nat → Int} {L : Nat → ByteArray} {K M C V cnt : Nat} {es : List (ByteArray × Nat)} {root lst lv : ByteArray} : ∀ n, One kt L n K M C V cnt es root lst lv → ∀ j i, j < n → i < nB (L j) → blL L n ((tT (L j)).first + i) = pc (tRest (L j)) C i
  | 0, _, j, _, hj, _ => by omega
  | n + 1, h, j, i, hj, hi => by
    rw [blL]
    unfold laid
    by_cases e : j = n
    · subst e
      rw [if_pos ⟨by omega, by omega⟩, Nat.add_sub_cancel_left, h.C j hj]
    · have hf := rng_fit (h.rd j hj)
      rw [h.first hj, h.cnt j hj, h.V j hj] at hf
      rw [if_neg (h.apart hj (by omega) e (by rw [h.first hj]; omega) (by rw [h.first hj]; omega))]
      exact bl_in n (h.less (by omega)) j i (by omega) hi
/-- all blocks of a volume are there -/
theorem One.full {kt : Nat → Int} {L : Nat → ByteArray} {n K M C V cnt : Nat} {es : List (ByteArray × Nat)} {root lst lv : ByteArray} (h : One kt L n K M C V cnt es root lst lv) (hg : ∀ x, x < cnt → goodB kt C lv x (blL L n x) = true) {j : Nat} (hj : j < n) : nB (L j) = ((tT (L j)).num + 1) * cnt / V - (tT (L j)).num * cnt / V ∧ (tRest (L j)).size = (((tT (L j)).num + 1) * cnt / V - (tT (L j)).num * cnt / V) * C := by
  have hf := rng_fit (h.rd j hj)
  have hT : Told1 (tT (L j)) := ck_ok (rd_none (h.rd j hj)).2.1
  rw [h.first hj, h.cnt j hj, h.V j hj, h.C j hj] at hf
  have hC1 : 1 ≤ C := by rw [← h.C j hj]; exact hT.c1
  have hV1 : 1 ≤ V := by rw [← h.V j hj]; exact hT.v1
  have hen : ((tT (L j)).num + 1) * cnt / V ≤ cnt := by
    exact Nat.le_trans (Nat.div_le_div_right (Nat.mul_le_mul_right _ hf.1)) (by rw [Nat.mul_div_cancel_left _ hV1]; exact Nat.le_refl _)
  have hge : ((tT (L j)).num + 1) * cnt / V - (tT (L j)).num * cnt / V ≤ nB (L j) := by
    rcases Nat.lt_or_ge (nB (L j)) (((tT (L j)).num + 1) * cnt / V - (tT (L j)).num * cnt / V) with hlt | hge
    · have hx := hg ((tT (L j)).num * cnt / V + nB (L j)) (by omega)
      rw [bl_out n (fun k hk => ?_)] at hx
      · have := goodB_size hx
        have e0 : (⟨#[]⟩ : ByteArray).size = 0 := rfl
        omega
      · by_cases e : j = k
        · subst e
          rw [h.first hj]
          omega
        · exact h.apart hj hk e (by omega) (by omega)
    · exact hge
  refine ⟨by omega, ?_⟩
  have h1 : nB (L j) = (tRest (L j)).size / C := by unfold nB; rw [h.C j hj]
  have h2 : (((tT (L j)).num + 1) * cnt / V - (tT (L j)).num * cnt / V) * C ≤ (tRest (L j)).size := by
    rw [h1] at hge
    exact Nat.le_trans (Nat.mul_le_mul_right C hge) (Nat.div_mul_le_self _ _)
  omega
/-- each volume is made as it was -/
theorem One.same {kt : Nat → Int} {L : Nat → ByteArray} {n K M C V cnt : Nat} {es : List (ByteArray × Nat)} {root lst lv : ByteArray} (h : One kt L n K M C V cnt es root lst lv) (hg : ∀ x, x < cnt → goodB kt C lv x (blL L n x) = true) {T : TT} (hK : T.L.K = K) (hM : T.L.M = M) (hC : T.L.C = C) (hV : T.L.V = V) (hes : T.L.es = es) (hcnt : T.L.cnt = cnt) {j : Nat} (hj : j < n) : L j = reV kt T (blL L n) (tT (L j)).num := by
  have hr := h.rd j hj
  have hck := (rd_none hr).2.1
  have hT : Told1 (tT (L j)) := ck_ok hck
  obtain ⟨d1, d2⟩ := ck_dec hck
  obtain ⟨_, d3, _⟩ := told_dec (bytes_ok hck)
  have hrt : (tCk (L j)).2 = ofT kt (⟨#[3]⟩ ++ tTold (L j)) ∧ (tT (L j)).root = rootT (ofT kt) (tT (L j)).lst (tT (L j)).L.cnt (pc (tT (L j)).lv 32) := by
    unfold rdE at hr
    split at hr
    · cases hr
    · split at hr
      · cases hr
      · split at hr
        · rename_i hc
          split at hr
          · rename_i hroot
            exact ⟨hc, hroot⟩
          · cases hr
        · cases hr
  have hls : T.ls = (tT (L j)).lst := by
    apply ba_ext
    unfold TT.ls
    rw [hK, hM, hC, hV, hes, lstT_list]
    have : (tT (L j)).lst.data.toList = lstL (tT (L j)).L.K (tT (L j)).L.M (tT (L j)).L.C (tT (L j)).L.V (tT (L j)).L.es := d3
    rw [this, h.K j hj, h.M j hj, h.C j hj, h.V j hj, h.es j hj]
  have hlf : ∀ i, i < cnt → leafT (ofT kt) (blL L n i) = pc lv 32 i := fun i hi => (of_decide_eq_true (hg i hi)).2
  have hlvs : lv.size = cnt * 32 := by
    have := hT.lv
    rw [h.lv j hj, h.cnt j hj] at this
    exact this
  have hjl : jT (fun i => leafT (ofT kt) (blL L n i)) cnt = lv := (jT_congr hlf).trans (jT_pc lv 32 cnt hlvs)
  have hroot : rootT (ofT kt) T.ls T.L.cnt (fun i => leafT (ofT kt) (blL L n i)) = (tT (L j)).root := by
    rw [hrt.2, hls, hcnt, h.cnt j hj, h.lv j hj]
    unfold rootT
    rw [topT_congr (ofT kt) cnt cnt _ _ (Nat.le_refl _) hlf]
  have hto : toldT (tT (L j)).root (tT (L j)).lst cnt (fun i => leafT (ofT kt) (blL L n i)) (tT (L j)).num = tTold (L j) := by
    apply ba_ext
    unfold toldT
    rw [hjl, d2]
    simp only [app_list, vint_list]
    have e1 : (RS.on (L j)).told.lv = lv := h.lv j hj
    rw [e1]
    rfl
  obtain ⟨hf1, hf2⟩ := h.full hg hj
  have hbk : jT (fun i => blL L n ((tT (L j)).num * cnt / V + i)) (((tT (L j)).num + 1) * cnt / V - (tT (L j)).num * cnt / V) = tRest (L j) := by
    refine Eq.trans (jT_congr (G := pc (tRest (L j)) C) (fun i hi => ?_)) (jT_pc _ C _ hf2)
    have := bl_in n h j i hj (by rw [hf1]; exact hi)
    rw [h.first hj] at this
    exact this
  unfold reV
  rw [hroot, hls, hcnt, hV]
  unfold volT
  rw [hto, ← hrt.1, hbk]
  apply ba_ext
  rw [d1]
  simp only [app_list]
end Go.Proofs.YtadinjaocnlglaaGreatDoor
namespace Go.Proofs.YtadinjaocnlglaaGreatDoor
open Go.RowKit
set_option maxRecDepth 100000
set_option maxHeartbeats 1000000
theorem sopen_root (rt : ByteArray) (v : Value) (w : World) (h0 : rt.size ≠ 0) (h32 : rt.size ≠ 32) : Calls Tryz.prog 104 #[v, .string rt] w fun e w' => ∃ z, e = .returned (.tuple #[.pointer none, .iface 305 (.pointer (some ⟨z, 0, none⟩))]) ∧ w'.heap[z]? = some (.cells #[.int .i64 9, .int .i64 0, .nilIface] 307 (0, 0)) ∧ Below w.heap.size w w' := by
  have e0 : ((rt.size : Int) != 0) = true := by rw [bne_iff_ne]; omega
  have e1 : ((rt.size : Int) != 32) = true := by rw [bne_iff_ne]; omega
  have e2 : ¬ (rt.size : Int) = 0 := by omega
  have e3 : ¬ (rt.size : Int) = 32 := by omega
  go_enter Tryz.func104, Tryz.ntmps104
  go_wp2_with fail
  refine Calls.mono (at_err 9 0 w) ?_
  rintro e w1 ⟨z, rfl, hz, hB⟩
  have HZ : Hid _ := hz
  have HB : Hid _ := hB
  clear hz hB
  go_wp2_with fail
  go_ret2
  exact ⟨z, rfl, HZ.out, HB.out⟩
theorem sopen_nil (rt : ByteArray) (w : World) (hrt : rt.size = 0 ∨ rt.size = 32) : Calls Tryz.prog 104 #[.slice none 0 0, .string rt] w fun e w' => ∃ v, e = .returned (.tuple #[.pointer none, v]) ∧ ErrD 11 0 (.returned v) w' ∧ Below w.heap.size w w' := by
  obtain ⟨k, hk⟩ : ∃ k, w.heap.size = k := ⟨_, rfl⟩
  obtain ⟨X, hX⟩ : ∃ X, w.alloc (.cells (stC (.pointer none) (.slice none 0 0) (.slice none 0 0) (.slice none 0 0) (.slice none 0 0)) 224) = X := ⟨_, rfl⟩
  have hB0 : Below w.heap.size w X := by rw [← hX]; exact (Below.refl _ _).alloc (Nat.le_refl _) _
  have hr : X.heap[k]? = some (.cells (stC (.pointer none) (.slice none 0 0) (.slice none 0 0) (.slice none 0 0) (.slice none 0 0)) 224 (0, 0)) := by rw [← hX, ← hk]; exact heap_alloc_new _ _
  have c0 : X.cell? ⟨k, 0, none⟩ = some (.pointer none) := cell_of_row _ _ _ _ 224 _ hr
  have hX' : w.alloc (.cells #[.pointer none, .slice none 0 0, .slice none 0 0, .slice none 0 0, .slice none 0 0] 224) = X := hX
  have HB0 : Hid _ := hB0
  have HK : Hid _ := hk
  clear hB0 hr hX
  rcases hrt with h0 | h32
  · have h0' : (rt.size : Int) = 0 := by omega
    go_enter Tryz.func104, Tryz.ntmps104
    go_wp2_with fail
    refine wp_loop_rounds 1 ?_
    rw [rounds_succ]
    go_wp2_with fail
    refine Calls.mono (none_zero _ X) ?_
    rintro e w1 ⟨⟨z, rfl, hz⟩, hB⟩
    have HZ : Hid _ := hz
    have HB : Hid _ := hB
    clear hz hB
    go_wp2_with fail
    go_ret2
    exact ⟨_, rfl, ⟨z, rfl, HZ.out⟩, HB0.out.trans (HB.out.mono HB0.out.size)⟩
  · have h32' : (rt.size : Int) = 32 := by omega
    go_enter Tryz.func104, Tryz.ntmps104
    go_wp2_with fail
    refine wp_loop_rounds 1 ?_
    rw [rounds_succ]
    go_wp2_with fail
    refine Calls.mono (none_zero _ X) ?_
    rintro e w1 ⟨⟨z, rfl, hz⟩, hB⟩
    have HZ : Hid _ := hz
    have HB : Hid _ := hB
    clear hz hB
    go_wp2_with fail
    go_ret2
    exact ⟨_, rfl, ⟨z, rfl, HZ.out⟩, HB0.out.trans (HB.out.mono HB0.out.size)⟩
end Go.Proofs.YtadinjaocnlglaaGreatDoor
namespace Go.Proofs.YtadinjaocnlglaaGreatDoor
open Go.RowKit Go.MuLone
set_option maxRecDepth 100000
set_option maxHeartbeats 4000000
theorem VS.set {kt : Nat → Int} {B k g p q f : Nat} {T : TT} {un : Value} {ul : List Nat} {rd : Nat → Bool} {bl : Nat → ByteArray} {dn : Nat → Bool} {zs : Nat → Nat} {bd : Nat → Value} {w : World} {j : Nat} {cs : Array Value} {t : TypeId} (h : VS kt B k g p q f T un ul rd bl dn zs bd w) (hj : w.heap[j]? = some (.cells cs t (0, 0))) (ht : t = 99 ∨ t = 159) (i : Nat) (v : Value) : VS kt B k g p q f T un ul rd bl dn zs bd (w.setCell ⟨j, i, none⟩ v) :=
  h.kept (fun x c t' ht' hx => by
    rw [set_other _ _ _ _ _ (row_ne hx hj (by rcases ht with e | e <;> rcases ht' with e' | e' | e' | e' | e' | e' | e' <;> simp [e, e']))]
    exact hx) (fun x hx => by
    have h3 : ∃ cur, w.heap[x]? = some (.cells cur 3 (0, 0)) := by
      rcases hx with e | ⟨s, hs, hd, e⟩
      · exact own_type h.unO x e
      · exact own_type (h.fn s hs hd).2 x e
    obtain ⟨cur, hcur⟩ := h3
    exact set_other _ _ _ _ _ (row_ne hcur hj (by rcases ht with e | e <;> simp [e])))
theorem own_setB {w : World} {B n j : Nat} {e t : TypeId} {size : Nat} {v u : Value} {xs : List Value} {cs : Array Value} (h : w.ownsRow B e size v n xs) (hj : w.heap[j]? = some (.cells cs t (0, 0))) (ht : e ≠ t) (i : Nat) : (w.setCell ⟨j, i, none⟩ u).ownsRow B e size v n xs := own_kept h (fun y hy => by
  obtain ⟨cur, hcur⟩ := own_type h y hy
  exact set_other _ _ _ _ _ (row_ne hcur hj ht))
theorem step99 {w0 w : World} {r0 : Nat} {S : Nat → Prop} {cs : Array Value} (h : w.heap[r0]? = some (.cells cs 99 (0, 0))) (hr : w0.heap.size ≤ r0) (hF : Fr S w0 w) (i : Nat) (v : Value) : (w.setCell ⟨r0, i, none⟩ v).heap[r0]? = some (.cells (cs.setIfInBounds i v) 99 (0, 0)) ∧ Fr S w0 (w.setCell ⟨r0, i, none⟩ v) ∧ (∀ (j : Nat) (c : Array Value) (t : TypeId), t ≠ 99 → w.heap[j]? = some (.cells c t (0, 0)) → (w.setCell ⟨r0, i, none⟩ v).heap[j]? = some (.cells c t (0, 0))) :=
  ⟨set_heap _ _ _ _ _ _ _ h, hF.set (.inr hr) _ _, fun j c t ht hj => by rw [set_other _ _ _ _ _ (row_ne hj h ht)]; exact hj⟩
/-- the Vault's own block -/
def VL (v k x : Nat) (w : World) : Prop := w.heap[v]? = some (.cells (wC (x : Int) k) 159 (0, 0))
theorem VL.one {v k : Nat} {w : World} (h : VL v k 0 w) : VL v k 1 (w.setCell ⟨v, 0, none⟩ (.int .i32 1)) := by
  have := set_heap w v 0 (.int .i32 1) _ _ _ h
  simpa [wC, VL] using this
theorem VL.zero {v k : Nat} {w : World} (h : VL v k 1 w) : VL v k 0 (w.setCell ⟨v, 0, none⟩ (.int .i32 0)) := by
  have := set_heap w v 0 (.int .i32 0) _ _ _ h
  simpa [wC, VL] using this
/-- what a Vault's Verify has told -/
def VVDid (kt : Nat → Int) (B v k g p q f : Nat) (T : TT) (un : Value) (ul : List Nat) (rd : Nat → Bool) (bl : Nat → ByteArray) (dn : Nat → Bool) (w : World) (e : Ending) (w' : World) : Prop :=
  ∃ (zs' : Nat → Nat) (bd' : Nat → Value) (a b c d u : Value), e = .returned (.agg (repC a b c d u)) ∧ VL v k 0 w' ∧ VS kt B k g p q f T un ul rd bl (dnS dn T.L.ns) zs' bd' w' ∧ Fr (fun j => j = q ∨ j = f ∨ j = v) w w' ∧
    w'.ownsRow w.heap.size 3 1 a ul.length (unV ul) ∧ w'.ownsRow w.heap.size 3 1 b (abF rd T.L.V).length (unV (abF rd T.L.V)) ∧ w'.ownsRow w.heap.size 3 1 c (baF kt T bl T.L.ns).length (unV (baF kt T bl T.L.ns)) ∧ w'.ownsRow w.heap.size 3 1 d (fsF kt T bl 1 T.L.ns).length (unV (fsF kt T bl 1 T.L.ns)) ∧ w'.ownsRow w.heap.size 3 1 u (fsF kt T bl 2 T.L.ns).length (unV (fsF kt T bl 2 T.L.ns))
theorem vverify (kt : Nat → Int) (B v k g p q f : Nat) (T : TT) (un : Value) (ul : List Nat) (rd : Nat → Bool) (bl : Nat → ByteArray) (dn : Nat → Bool) (zs : Nat → Nat) (bd : Nat → Value) (w : World) (hv : VL v k 0 w) (h : VS kt B k g p q f T un ul rd bl dn zs bd w) (hT : Told1 T) (hle : T.L.es.length ≤ 16 ∧ lenE T.L.es ≤ 4096) (hul : ul.length ≤ 10000000000000) (hG : Gd kt w) (hB : B ≤ w.heap.size) (h2 : v ≠ 2) :
    Calls Tryz.prog 40 #[.pointer (some ⟨v, 0, none⟩)] w fun e w' => VVDid kt B v k g p q f T un ul rd bl dn w e w' := by
  have hvl : v < w.heap.size := (Array.getElem?_eq_some_iff.1 hv).1
  obtain ⟨W, hW⟩ : ∃ W, w.alloc (.cells nil5 99) = W := ⟨_, rfl⟩
  have hbW : Below w.heap.size w W := by rw [← hW]; exact (Below.refl _ _).alloc (Nat.le_refl _) _
  have hWn : W.heap[w.heap.size]? = some (.cells nil5 99 (0, 0)) := by rw [← hW]; exact heap_alloc_new _ _
  have hvW : VL v k 0 W := (hbW.block v hvl).trans hv
  have h0 : W.cell? ⟨v, 0, none⟩ = some (.int .i32 0) := cell_of_row _ _ _ _ 159 _ hvW
  have f0 : W.frozen? ⟨v, 0, none⟩ = false := frozen_of_row _ _ _ _ 159 hvW
  have HL : Hid _ := lock_free muL ⟨v, 0, none⟩ W h0 f0
  obtain ⟨Y, hY⟩ : ∃ Y, W.setCell ⟨v, 0, none⟩ (.int .i32 1) = Y := ⟨_, rfl⟩
  have hvY : VL v k 1 Y := by rw [← hY]; exact hvW.one
  have hVY : VS kt B k g p q f T un ul rd bl dn zs bd Y := by rw [← hY]; exact (h.below hbW).set hvW (.inr rfl) _ _
  have hYn : Y.heap[w.heap.size]? = some (.cells nil5 99 (0, 0)) := by rw [← hY, set_other _ _ _ _ _ (by omega)]; exact hWn
  have hFY : Fr (fun j => j = q ∨ j = f ∨ j = v) w Y := by rw [← hY]; exact (Fr.below hbW).set (.inl (.inr (.inr rfl))) _ _
  have hGY : Gd kt Y := (hG.fr (S := fun j => j = v) (by rw [← hY]; exact (Fr.below (S := fun j => j = v) hbW).set (.inl rfl) _ _) (fun e => h2 e.symm))
  have HVF : Hid _ := verify_any kt B k g p q f T un ul rd bl dn zs bd Y hVY hT hle hul hGY (Nat.le_trans hB hFY.size)
  have c2 : Y.cell? ⟨v, 2, none⟩ = some (.pointer (some ⟨k, 0, none⟩)) := cell_of_row _ _ _ _ 159 _ hvY
  rw [hY] at HL
  have HVY : Hid (VL v k 1 Y) := hvY
  have HSY : Hid _ := hVY
  have HYN : Hid _ := hYn
  have HFY : Hid _ := hFY
  have hW' : w.alloc (.cells #[.slice none 0 0, .slice none 0 0, .slice none 0 0, .slice none 0 0, .slice none 0 0] 99) = W := hW
  have HSZ : Hid (w.heap.size ≤ Y.heap.size) := hFY.size
  clear hv h hbW hWn hvW h0 f0 hY hvY hVY hYn hFY hGY hW
  go_enter_defers Tryz.func40, Tryz.ntmps40
  go_wp2_with fail
  refine Calls.mono HL.out ?_
  rintro e w1 ⟨rfl, rfl⟩
  go_wp2_with fail
  refine Calls.mono HVF.out ?_
  rintro e w2 ⟨zs', bd', a, b, c, d, u, rfl, hS2, hF2, o1, o2, o3, o4, o5⟩
  obtain ⟨xa, ya, ha⟩ := own_shape o1
  obtain ⟨xb, yb, hb⟩ := own_shape o2
  obtain ⟨xc, yc, hc⟩ := own_shape o3
  obtain ⟨xd, yd, hd⟩ := own_shape o4
  obtain ⟨xu, yu, hu⟩ := own_shape o5
  have hrl : w.heap.size < w1.heap.size := (Array.getElem?_eq_some_iff.1 HYN.out).1
  have hold : ∀ (j : Nat) (cs : Array Value) (t : TypeId), t ≠ 9 → t ≠ 232 → w1.heap[j]? = some (.cells cs t (0, 0)) → w2.heap[j]? = some (.cells cs t (0, 0)) := fun j cs t h9 h232 hj => by
    rw [hF2.old j (Array.getElem?_eq_some_iff.1 hj).1 (fun e => by
      rcases e with e | e
      · exact row_ne hj HSY.out.blR h9 e
      · exact row_ne hj HSY.out.fiR h232 e)]
    exact hj
  have hr2 := hold _ _ _ (by decide) (by decide) HYN.out
  have hv2 : VL v k 1 w2 := hold _ _ _ (by decide) (by decide) HVY.out
  obtain ⟨r, hr⟩ : ∃ r, w.heap.size = r := ⟨_, rfl⟩
  rw [hr] at hr2
  have p0 : w2.cell? ⟨r, 0, none⟩ = some (.slice none 0 0) := cell_of_row _ _ _ _ 99 _ hr2
  have p1 : w2.cell? ⟨r, 1, none⟩ = some (.slice none 0 0) := cell_of_row _ _ _ _ 99 _ hr2
  have p2 : w2.cell? ⟨r, 2, none⟩ = some (.slice none 0 0) := cell_of_row _ _ _ _ 99 _ hr2
  have p3 : w2.cell? ⟨r, 3, none⟩ = some (.slice none 0 0) := cell_of_row _ _ _ _ 99 _ hr2
  have p4 : w2.cell? ⟨r, 4, none⟩ = some (.slice none 0 0) := cell_of_row _ _ _ _ 99 _ hr2
  have fz : ∀ j, w2.frozen? ⟨r, j, none⟩ = false := fun j => frozen_of_row _ _ _ _ 99 hr2
  have HR2 : Hid _ := hr2
  have HS2 : Hid _ := hS2
  have HV2 : Hid (VL v k 1 w2) := hv2
  have HF2 : Hid _ := HFY.out.trans' (hF2.mono (T := fun j => j = q ∨ j = f ∨ j = v) (fun j _ e => by rcases e with e | e; exact .inl e; exact .inr (.inl e)))
  have HO1 : Hid _ := own_base o1 HSZ.out
  have HO2 : Hid _ := own_base o2 HSZ.out
  have HO3 : Hid _ := own_base o3 HSZ.out
  have HO4 : Hid _ := own_base o4 HSZ.out
  have HO5 : Hid _ := own_base o5 HSZ.out
  have HRR : Hid (w.heap.size = r) := hr
  have hrr : w.heap.size ≤ r := Nat.le_of_eq hr
  have hvr : v < r := by omega
  unfold repC
  subst ha hb hc hd hu
  clear hold hr2 hS2 hv2 hF2 o1 o2 o3 o4 o5 hr
  rw [HRR.out]
  go_wp2_with fail
  obtain ⟨h0, f0, k0⟩ := step99 HR2.out (by omega) HF2.out 0 (.slice xa ul.length ya)
  obtain ⟨h1, f1, k1⟩ := step99 h0 (by omega) f0 1 (.slice xb (abF rd T.L.V).length yb)
  obtain ⟨h2', f2, k2⟩ := step99 h1 (by omega) f1 2 (.slice xc (baF kt T bl T.L.ns).length yc)
  obtain ⟨h3, f3, k3⟩ := step99 h2' (by omega) f2 3 (.slice xd (fsF kt T bl 1 T.L.ns).length yd)
  obtain ⟨h4, f4, k4⟩ := step99 h3 (by omega) f3 4 (.slice xu (fsF kt T bl 2 T.L.ns).length yu)
  have hk := fun (j : Nat) (c : Array Value) (t : TypeId) (ht : t ≠ 99) hj => k4 j c t ht (k3 j c t ht (k2 j c t ht (k1 j c t ht (k0 j c t ht hj))))
  have hvZ := hk _ _ _ (by decide) HV2.out
  have hSZ := HS2.out.all hk
  have z1 := own_all HO1.out hk
  have z2 := own_all HO2.out hk
  have z3 := own_all HO3.out hk
  have z4 := own_all HO4.out hk
  have z5 := own_all HO5.out hk
  clear k0 k1 k2 k3 k4 hk h0 h1 h2' h3 f0 f1 f2 f3 p0 p1 p2 p3 p4 fz
  generalize ((((w2.setCell ⟨r, 0, none⟩ (.slice xa ul.length ya)).setCell ⟨r, 1, none⟩ (.slice xb (abF rd T.L.V).length yb)).setCell ⟨r, 2, none⟩ (.slice xc (baF kt T bl T.L.ns).length yc)).setCell ⟨r, 3, none⟩ (.slice xd (fsF kt T bl 1 T.L.ns).length yd)).setCell ⟨r, 4, none⟩ (.slice xu (fsF kt T bl 2 T.L.ns).length yu) = Z at *
  have hvZ' : VL v k 1 Z := hvZ
  refine leaves_cons (f := 69) (args := #[.pointer (some ⟨v, 0, none⟩)]) (by simp) (by simp [go_sem]) ?_
  refine (unlock_deferred muL ⟨v, 0, none⟩ .returning Z (cell_of_row _ _ _ _ 159 _ hvZ) (frozen_of_row _ _ _ _ 159 hvZ)).mono ?_
  rintro e u' w3 ⟨rfl, rfl, rfl⟩
  have hrow : (Z.setCell ⟨v, 0, none⟩ (.int .i32 0)).heap[r]? = _ := (set_other Z v 0 r _ (by omega)).trans h4
  refine ⟨_, results_cell_row Tryz.results40 _ _ r 99 _ (0, 0) _ rfl hrow Tryz.underlying99 rfl (by kernel_rfl), zs', bd', _, _, _, _, _, rfl, hvZ'.zero, hSZ.set hvZ (.inr rfl) _ _, f4.set (.inl (.inr (.inr rfl))) _ _, own_setB z1 hvZ (by decide) _, own_setB z2 hvZ (by decide) _, own_setB z3 hvZ (by decide) _, own_setB z4 hvZ (by decide) _, own_setB z5 hvZ (by decide) _⟩
end Go.Proofs.YtadinjaocnlglaaGreatDoor
