/-
  Plain: where all blocks are good, the volumes are made as they were.
  stock.Open at a nil list, and at a root of another size.
  A Vault: its calls behind the lock.
  Vault.Repair where all is whole; vaultkeep's whole.
  vault.Open, and vaultkeep's opened.
  Plain: what is whole is made as it was, and is whole again.
  The walk of Stock.data.
-/
import Derived.Test.YtadinjaocnlglaaGreatDoorZ35
import Derived.Test.YtadinjaocnlglaaGreatDoorZ29
import Derived.Test.YtadinjaocnlglaaGreatDoorZ17
namespace Go.Proofs.YtadinjaocnlglaaGreatDoor
open Go.RowKit
set_option maxRecDepth 100000
set_option maxHeartbeats 1000000
theorem jL_pc (t : ByteArray) (c : Nat) : ∀ k, jL (pc t c) k = t.data.toList.take (k * c)
  | 0 => by simp [jL]
  | k + 1 => by
    have e : jL (pc t c) (k + 1) = jL (pc t c) k ++ (pc t c k).data.toList := by simp [jL, List.range_succ]
    rw [e, jL_pc t c k]
    unfold pc
    rw [ext_list, Nat.succ_mul, Nat.add_sub_cancel_left, List.take_add]
theorem jT_pc (t : ByteArray) (c k : Nat) (h : t.size = k * c) : jT (pc t c) k = t := by
  apply ba_ext
  show jL (pc t c) k = _
  rw [jL_pc, List.take_of_length_le]
  rw [dl]; omega
theorem jT_congr {F G : Nat → ByteArray} {n : Nat} (h : ∀ i, i < n → F i = G i) : jT F n = jT G n := by
  apply ba_ext
  show jL F n = jL G n
  unfold jL
  congr 1
  apply List.map_congr_left
  intro i hi
  rw [h i (List.mem_range.1 hi)]
/-- where a block lies -/
theorem in_range (cnt V x : Nat) : ∀ u, x < u * cnt / V → ∃ v, v < u ∧ v * cnt / V ≤ x ∧ x < (v + 1) * cnt / V
  | 0, h => by simp at h
  | u + 1, h => by
    by_cases hx : x < u * cnt / V
    · obtain ⟨v, h1, h2, h3⟩ := in_range cnt V x u hx
      exact ⟨v, by omega, h2, h3⟩
    · exact ⟨u, by omega, by omega, h⟩
theorem rng_mono {cnt V u v : Nat} (h : u < v) : (u + 1) * cnt / V ≤ v * cnt / V := Nat.div_le_div_right (Nat.mul_le_mul_right _ h)
theorem rng_fit {kt : Nat → Int} {t : ByteArray} (h : rdE kt t = none) : (tT t).num < (tT t).L.V ∧ nB t ≤ ((tT t).num + 1) * (tT t).L.cnt / (tT t).L.V - (tT t).first ∧ (tRest t).size ≤ (((tT t).num + 1) * (tT t).L.cnt / (tT t).L.V - (tT t).first) * (tT t).L.C := by
  obtain ⟨_, h1, h2⟩ := rd_none h
  have hT : Told1 (tT t) := ck_ok h1
  have h3 : (tRest t).size ≤ (((tT t).num + 1) * (tT t).L.cnt / (tT t).L.V - (tT t).first) * (tT t).L.C := h2
  refine ⟨hT.num, ?_, h3⟩
  unfold nB
  exact Nat.le_trans (Nat.div_le_div_right h3) (by rw [Nat.mul_div_cancel _ hT.c1]; exact Nat.le_refl _)
theorem bl_out {L : Nat → ByteArray} {x : Nat} : ∀ n, (∀ j, j < n → ¬ ((tT (L j)).first ≤ x ∧ x < (tT (L j)).first + nB (L j))) → blL L n x = ⟨#[]⟩
  | 0, _ => rfl
  | n + 1, h => by
    rw [blL]
    unfold laid
    rw [if_neg (h n (by omega))]
    exact bl_out n (fun j hj => h j (by omega))
/-- volumes of one vault share its params -/
structure One (kt : Nat → Int) (L : Nat → ByteArray) (n K M C V cnt : Nat) (es : List (ByteArray × Nat)) (root lst lv : ByteArray) : Prop where
  rd : ∀ j, j < n → rdE kt (L j) = none
  K : ∀ j, j < n → (tT (L j)).L.K = K
  M : ∀ j, j < n → (tT (L j)).L.M = M
  C : ∀ j, j < n → (tT (L j)).L.C = C
  V : ∀ j, j < n → (tT (L j)).L.V = V
  es : ∀ j, j < n → (tT (L j)).L.es = es
  cnt : ∀ j, j < n → (tT (L j)).L.cnt = cnt
  root : ∀ j, j < n → (tT (L j)).root = root
  lst : ∀ j, j < n → (tT (L j)).lst = lst
  lv : ∀ j, j < n → (tT (L j)).lv = lv
  ne : ∀ j k, j < n → k < n → j ≠ k → (tT (L j)).num ≠ (tT (L k)).num
theorem GoodL.one {kt : Nat → Int} {rt : ByteArray} {L : Nat → ByteArray} {n : Nat} (h : GoodL kt rt L n) (hn : 0 < n) : One kt L n (tT (L 0)).L.K (tT (L 0)).L.M (tT (L 0)).L.C (tT (L 0)).L.V (tT (L 0)).L.cnt (tT (L 0)).L.es (tT (L 0)).root (tT (L 0)).lst (tT (L 0)).lv := by
  have f := fun j (hj : j < n) => same3_L (h 0 hn).1 (h j hj).1 (h j hj).2.1
  refine ⟨fun j hj => (f j hj).2.2, fun j hj => (f j hj).1.K, fun j hj => (f j hj).1.M, fun j hj => (f j hj).1.C, fun j hj => (f j hj).1.V, fun j hj => (f j hj).1.es, fun j hj => (f j hj).1.cnt, fun j hj => (h j hj).2.1.1.symm, fun j hj => (h j hj).2.1.2.1.symm, fun j hj => (h j hj).2.1.2.2.symm, fun j k hj hk hne => ?_⟩
  rcases Nat.lt_or_ge j k with hlt | hge
  · exact (h k hk).2.2 j hlt
  · exact ((h j hj).2.2 k (by omega)).symm
theorem One.first {kt : Nat → Int} {L : Nat → ByteArray} {n K M C V cnt : Nat} {es : List (ByteArray × Nat)} {root lst lv : ByteArray} (h : One kt L n K M C V cnt es root lst lv) {j : Nat} (hj : j < n) : (tT (L j)).first = (tT (L j)).num * cnt / V := by
  unfold TT.first; rw [h.cnt j hj, h.V j hj]
theorem One.apart {kt : Nat → Int} {L : Nat → ByteArray} {n K M C V cnt : Nat} {es : List (ByteArray × Nat)} {root lst lv : ByteArray} (h : One kt L n K M C V cnt es root lst lv) {j k x : Nat} (hj : j < n) (hk : k < n) (hjk : j ≠ k) (h1 : (tT (L j)).num * cnt / V ≤ x) (h2 : x < ((tT (L j)).num + 1) * cnt / V) : ¬ ((tT (L k)).first ≤ x ∧ x < (tT (L k)).first + nB (L k)) := by
  rintro ⟨h3, h4⟩
  have hf := rng_fit (h.rd k hk)
  rw [h.first hk] at h3 h4
  rw [h.first hk, h.cnt k hk, h.V k hk] at hf
  have hle : (tT (L k)).num * cnt / V ≤ ((tT (L k)).num + 1) * cnt / V := Nat.div_le_div_right (Nat.mul_le_mul_right _ (by omega))
  have hne := h.ne j k hj hk hjk
  rcases Nat.lt_or_ge (tT (L j)).num (tT (L k)).num with hlt | hge
  · have := rng_mono (cnt := cnt) (V := V) hlt
    omega
  · have := rng_mono (cnt := cnt) (V := V) (show (tT (L k)).num < (tT (L j)).num by omega)
    omega
theorem One.less {kt : Nat → Int} {L : Nat → ByteArray} {n m K M C V cnt : Nat} {es : List (ByteArray × Nat)} {root lst lv : ByteArray} (h : One kt L n K M C V cnt es root lst lv) (hm : m ≤ n) : One kt L m K M C V cnt es root lst lv :=
  ⟨fun j hj => h.rd j (by omega), fun j hj => h.K j (by omega), fun j hj => h.M j (by omega), fun j hj => h.C j (by omega), fun j hj => h.V j (by omega), fun j hj => h.es j (by omega), fun j hj => h.cnt j (by omega), fun j hj => h.root j (by omega), fun j hj => h.lst j (by omega), fun j hj => h.lv j (by omega), fun j k hj hk => h.ne j k (by omega) (by omega)⟩
theorem bl_in {kt : Nat → Int} {L : Nat → ByteArray} {K M C V cnt : Nat} {es : List (ByteArray × Nat)} {root lst lv : ByteArray} : ∀ n, One kt L n K M C V cnt es root lst lv → ∀ j i, j < n → i < nB (L j) → blL L n ((tT (L j)).first + i) = pc (tRest (L j)) C i
  | 0, _, j, _, hj, _ => by omega
  | n + 1, h, j, i, hj, hi => by
    rw [blL]
    unfold laid
    by_cases e : j = n
    · subst e
      rw [if_pos ⟨by omega, by omega⟩, Nat.add_sub_cancel_left, h.C j hj]
    · have hf := rng_fit (h.rd j hj)
      rw [h.first hj, h.cnt j hj, h.V j hj] at hf
      rw [if_neg (h.apart hj (by omega) e (by rw [h.first hj]; omega) (by rw [h.first hj]; omega))]
      exact bl_in n (h.less (by omega)) j i (by omega) hi
/-- all blocks of a volume are there -/
theorem One.full {kt : Nat → Int} {L : Nat → ByteArray} {n K M C V cnt : Nat} {es : List (ByteArray × Nat)} {root lst lv : ByteArray} (h : One kt L n K M C V cnt es root lst lv) (hg : ∀ x, x < cnt → goodB kt C lv x (blL L n x) = true) {j : Nat} (hj : j < n) : nB (L j) = ((tT (L j)).num + 1) * cnt / V - (tT (L j)).num * cnt / V ∧ (tRest (L j)).size = (((tT (L j)).num + 1) * cnt / V - (tT (L j)).num * cnt / V) * C := by
  have hf := rng_fit (h.rd j hj)
  have hT : Told1 (tT (L j)) := ck_ok (rd_none (h.rd j hj)).2.1
  rw [h.first hj, h.cnt j hj, h.V j hj, h.C j hj] at hf
  have hC1 : 1 ≤ C := by rw [← h.C j hj]; exact hT.c1
  have hV1 : 1 ≤ V := by rw [← h.V j hj]; exact hT.v1
  have hen : ((tT (L j)).num + 1) * cnt / V ≤ cnt := by
    exact Nat.le_trans (Nat.div_le_div_right (Nat.mul_le_mul_right _ hf.1)) (by rw [Nat.mul_div_cancel_left _ hV1]; exact Nat.le_refl _)
  have hge : ((tT (L j)).num + 1) * cnt / V - (tT (L j)).num * cnt / V ≤ nB (L j) := by
    rcases Nat.lt_or_ge (nB (L j)) (((tT (L j)).num + 1) * cnt / V - (tT (L j)).num * cnt / V) with hlt | hge
    · have hx := hg ((tT (L j)).num * cnt / V + nB (L j)) (by omega)
      rw [bl_out n (fun k hk => ?_)] at hx
      · have := goodB_size hx
        have e0 : (⟨#[]⟩ : ByteArray).size = 0 := rfl
        omega
      · by_cases e : j = k
        · subst e
          rw [h.first hj]
          omega
        · exact h.apart hj hk e (by omega) (by omega)
    · exact hge
  refine ⟨by omega, ?_⟩
  have h1 : nB (L j) = (tRest (L j)).size / C := by unfold nB; rw [h.C j hj]
  have h2 : (((tT (L j)).num + 1) * cnt / V - (tT (L j)).num * cnt / V) * C ≤ (tRest (L j)).size := by
    rw [h1] at hge
    exact Nat.le_trans (Nat.mul_le_mul_right C hge) (Nat.div_mul_le_self _ _)
  omega
/-- each volume is made as it was -/
theorem One.same {kt : Nat → Int} {L : Nat → ByteArray} {n K M C V cnt : Nat} {es : List (ByteArray × Nat)} {root lst lv : ByteArray} (h : One kt L n K M C V cnt es root lst lv) (hg : ∀ x, x < cnt → goodB kt C lv x (blL L n x) = true) {T : TT} (hK : T.L.K = K) (hM : T.L.M = M) (hC : T.L.C = C) (hV : T.L.V = V) (hes : T.L.es = es) (hcnt : T.L.cnt = cnt) {j : Nat} (hj : j < n) : L j = reV kt T (blL L n) (tT (L j)).num := by
  have hr := h.rd j hj
  have hck := (rd_none hr).2.1
  have hT : Told1 (tT (L j)) := ck_ok hck
  obtain ⟨d1, d2⟩ := ck_dec hck
  obtain ⟨_, d3, _⟩ := told_dec (bytes_ok hck)
  have hrt : (tCk (L j)).2 = ofT kt (⟨#[3]⟩ ++ tTold (L j)) ∧ (tT (L j)).root = rootT (ofT kt) (tT (L j)).lst (tT (L j)).L.cnt (pc (tT (L j)).lv 32) := by
    unfold rdE at hr
    split at hr
    · cases hr
    · split at hr
      · cases hr
      · split at hr
        · rename_i hc
          split at hr
          · rename_i hroot
            exact ⟨hc, hroot⟩
          · cases hr
        · cases hr
  have hls : T.ls = (tT (L j)).lst := by
    apply ba_ext
    unfold TT.ls
    rw [hK, hM, hC, hV, hes, lstT_list]
    have : (tT (L j)).lst.data.toList = lstL (tT (L j)).L.K (tT (L j)).L.M (tT (L j)).L.C (tT (L j)).L.V (tT (L j)).L.es := d3
    rw [this, h.K j hj, h.M j hj, h.C j hj, h.V j hj, h.es j hj]
  have hlf : ∀ i, i < cnt → leafT (ofT kt) (blL L n i) = pc lv 32 i := fun i hi => (of_decide_eq_true (hg i hi)).2
  have hlvs : lv.size = cnt * 32 := by
    have := hT.lv
    rw [h.lv j hj, h.cnt j hj] at this
    exact this
  have hjl : jT (fun i => leafT (ofT kt) (blL L n i)) cnt = lv := (jT_congr hlf).trans (jT_pc lv 32 cnt hlvs)
  have hroot : rootT (ofT kt) T.ls T.L.cnt (fun i => leafT (ofT kt) (blL L n i)) = (tT (L j)).root := by
    rw [hrt.2, hls, hcnt, h.cnt j hj, h.lv j hj]
    unfold rootT
    rw [topT_congr (ofT kt) cnt cnt _ _ (Nat.le_refl _) hlf]
  have hto : toldT (tT (L j)).root (tT (L j)).lst cnt (fun i => leafT (ofT kt) (blL L n i)) (tT (L j)).num = tTold (L j) := by
    apply ba_ext
    unfold toldT
    rw [hjl, d2]
    simp only [app_list, vint_list]
    have e1 : (RS.on (L j)).told.lv = lv := h.lv j hj
    rw [e1]
    rfl
  obtain ⟨hf1, hf2⟩ := h.full hg hj
  have hbk : jT (fun i => blL L n ((tT (L j)).num * cnt / V + i)) (((tT (L j)).num + 1) * cnt / V - (tT (L j)).num * cnt / V) = tRest (L j) := by
    refine Eq.trans (jT_congr (G := pc (tRest (L j)) C) (fun i hi => ?_)) (jT_pc _ C _ hf2)
    have := bl_in n h j i hj (by rw [hf1]; exact hi)
    rw [h.first hj] at this
    exact this
  unfold reV
  rw [hroot, hls, hcnt, hV]
  unfold volT
  rw [hto, ← hrt.1, hbk]
  apply ba_ext
  rw [d1]
  simp only [app_list]
end Go.Proofs.YtadinjaocnlglaaGreatDoor
namespace Go.Proofs.YtadinjaocnlglaaGreatDoor
open Go.RowKit
set_option maxRecDepth 100000
set_option maxHeartbeats 1000000
theorem sopen_root (rt : ByteArray) (v : Value) (w : World) (h0 : rt.size ≠ 0) (h32 : rt.size ≠ 32) : Calls Tryz.prog 104 #[v, .string rt] w fun e w' => ∃ z, e = .returned (.tuple #[.pointer none, .iface 305 (.pointer (some ⟨z, 0, none⟩))]) ∧ w'.heap[z]? = some (.cells #[.int .i64 9, .int .i64 0, .nilIface] 307 (0, 0)) ∧ Below w.heap.size w w' := by
  have e0 : ((rt.size : Int) != 0) = true := by rw [bne_iff_ne]; omega
  have e1 : ((rt.size : Int) != 32) = true := by rw [bne_iff_ne]; omega
  have e2 : ¬ (rt.size : Int) = 0 := by omega
  have e3 : ¬ (rt.size : Int) = 32 := by omega
  go_enter Tryz.func104, Tryz.ntmps104
  go_wp2_with fail
  refine Calls.mono (at_err 9 0 w) ?_
  rintro e w1 ⟨z, rfl, hz, hB⟩
  have HZ : Hid _ := hz
  have HB : Hid _ := hB
  clear hz hB
  go_wp2_with fail
  go_ret2
  exact ⟨z, rfl, HZ.out, HB.out⟩
theorem sopen_nil (rt : ByteArray) (w : World) (hrt : rt.size = 0 ∨ rt.size = 32) : Calls Tryz.prog 104 #[.slice none 0 0, .string rt] w fun e w' => ∃ v, e = .returned (.tuple #[.pointer none, v]) ∧ ErrD 11 0 (.returned v) w' ∧ Below w.heap.size w w' := by
  obtain ⟨k, hk⟩ : ∃ k, w.heap.size = k := ⟨_, rfl⟩
  obtain ⟨X, hX⟩ : ∃ X, w.alloc (.cells (stC (.pointer none) (.slice none 0 0) (.slice none 0 0) (.slice none 0 0) (.slice none 0 0)) 224) = X := ⟨_, rfl⟩
  have hB0 : Below w.heap.size w X := by rw [← hX]; exact (Below.refl _ _).alloc (Nat.le_refl _) _
  have hr : X.heap[k]? = some (.cells (stC (.pointer none) (.slice none 0 0) (.slice none 0 0) (.slice none 0 0) (.slice none 0 0)) 224 (0, 0)) := by rw [← hX, ← hk]; exact heap_alloc_new _ _
  have c0 : X.cell? ⟨k, 0, none⟩ = some (.pointer none) := cell_of_row _ _ _ _ 224 _ hr
  have hX' : w.alloc (.cells #[.pointer none, .slice none 0 0, .slice none 0 0, .slice none 0 0, .slice none 0 0] 224) = X := hX
  have HB0 : Hid _ := hB0
  have HK : Hid _ := hk
  clear hB0 hr hX
  rcases hrt with h0 | h32
  · have h0' : (rt.size : Int) = 0 := by omega
    go_enter Tryz.func104, Tryz.ntmps104
    go_wp2_with fail
    refine wp_loop_rounds 1 ?_
    rw [rounds_succ]
    go_wp2_with fail
    refine Calls.mono (none_zero _ X) ?_
    rintro e w1 ⟨⟨z, rfl, hz⟩, hB⟩
    have HZ : Hid _ := hz
    have HB : Hid _ := hB
    clear hz hB
    go_wp2_with fail
    go_ret2
    exact ⟨_, rfl, ⟨z, rfl, HZ.out⟩, HB0.out.trans (HB.out.mono HB0.out.size)⟩
  · have h32' : (rt.size : Int) = 32 := by omega
    go_enter Tryz.func104, Tryz.ntmps104
    go_wp2_with fail
    refine wp_loop_rounds 1 ?_
    rw [rounds_succ]
    go_wp2_with fail
    refine Calls.mono (none_zero _ X) ?_
    rintro e w1 ⟨⟨z, rfl, hz⟩, hB⟩
    have HZ : Hid _ := hz
    have HB : Hid _ := hB
    clear hz hB
    go_wp2_with fail
    go_ret2
    exact ⟨_, rfl, ⟨z, rfl, HZ.out⟩, HB0.out.trans (HB.out.mono HB0.out.size)⟩
end Go.Proofs.YtadinjaocnlglaaGreatDoor
namespace Go.Proofs.YtadinjaocnlglaaGreatDoor
open Go.RowKit Go.MuLone
set_option maxRecDepth 100000
set_option maxHeartbeats 4000000
theorem VS.set {kt : Nat → Int} {B k g p q f : Nat} {T : TT} {un : Value} {ul : List Nat} {rd : Nat → Bool} {bl : Nat → ByteArray} {dn : Nat → Bool} {zs : Nat → Nat} {bd : Nat → Value} {w : World} {j : Nat} {cs : Array Value} {t : TypeId} (h : VS kt B k g p q f T un ul rd bl dn zs bd w) (hj : w.heap[j]? = some (.cells cs t (0, 0))) (ht : t = 99 ∨ t = 159) (i : Nat) (v : Value) : VS kt B k g p q f T un ul rd bl dn zs bd (w.setCell ⟨j, i, none⟩ v) :=
  h.kept (fun x c t' ht' hx => by
    rw [set_other _ _ _ _ _ (row_ne hx hj (by rcases ht with e | e <;> rcases ht' with e' | e' | e' | e' | e' | e' | e' <;> simp [e, e']))]
    exact hx) (fun x hx => by
    have h3 : ∃ cur, w.heap[x]? = some (.cells cur 3 (0, 0)) := by
      rcases hx with e | ⟨s, hs, hd, e⟩
      · exact own_type h.unO x e
      · exact own_type (h.fn s hs hd).2 x e
    obtain ⟨cur, hcur⟩ := h3
    exact set_other _ _ _ _ _ (row_ne hcur hj (by rcases ht with e | e <;> simp [e])))
theorem own_setB {w : World} {B n j : Nat} {e t : TypeId} {size : Nat} {v u : Value} {xs : List Value} {cs : Array Value} (h : w.ownsRow B e size v n xs) (hj : w.heap[j]? = some (.cells cs t (0, 0))) (ht : e ≠ t) (i : Nat) : (w.setCell ⟨j, i, none⟩ u).ownsRow B e size v n xs := own_kept h (fun y hy => by
  obtain ⟨cur, hcur⟩ := own_type h y hy
  exact set_other _ _ _ _ _ (row_ne hcur hj ht))
/-- the Vault's own block -/
def VL (v k x : Nat) (w : World) : Prop := w.heap[v]? = some (.cells (wC (x : Int) k) 159 (0, 0))
theorem VL.one {v k : Nat} {w : World} (h : VL v k 0 w) : VL v k 1 (w.setCell ⟨v, 0, none⟩ (.int .i32 1)) := by
  have := set_heap w v 0 (.int .i32 1) _ _ _ h
  simpa [wC, VL] using this
theorem VL.zero {v k : Nat} {w : World} (h : VL v k 1 w) : VL v k 0 (w.setCell ⟨v, 0, none⟩ (.int .i32 0)) := by
  have := set_heap w v 0 (.int .i32 0) _ _ _ h
  simpa [wC, VL] using this
end Go.Proofs.YtadinjaocnlglaaGreatDoor
namespace Go.Proofs.YtadinjaocnlglaaGreatDoor
open Go.RowKit
set_option maxRecDepth 100000
set_option maxHeartbeats 4000000
theorem vrepair_ok (kt : Nat → Int) (B v k g p q f : Nat) (T : TT) (un : Value) (ul : List Nat) (rd : Nat → Bool) (bl : Nat → ByteArray) (dn : Nat → Bool) (zs : Nat → Nat) (bd : Nat → Value) (w : World) (hv : VL v k 0 w) (h : VS kt B k g p q f T un ul rd bl dn zs bd w) (hT : Told1 T) (hle : T.L.es.length ≤ 16 ∧ lenE T.L.es ≤ 4096) (hnm : ∀ x ∈ T.L.es, x.1.size ≤ 255) (hG : Gd kt w) (hB : B ≤ w.heap.size) (h2 : v ≠ 2) (ha : ∀ s, s < T.L.ns → stF kt T bl s = 0) :
    Calls Tryz.prog 28 #[.pointer (some ⟨v, 0, none⟩)] w fun e w' => ∃ gv, e = .returned (.tuple #[.slice (some ⟨gv, 0, none⟩) T.L.V T.L.V, .nilIface]) ∧ w.heap.size ≤ gv ∧ Rw w' gv T.L.V 9 (tX (reV kt T (blD kt T bl (dnS dn T.L.ns)))) ∧ Fr (fun j => j = q ∨ j = f ∨ j = v) w w' := by
  have hvl : v < w.heap.size := (Array.getElem?_eq_some_iff.1 hv).1
  have hF0 : Fr (fun j => j = v) w (w.setCell ⟨v, 0, none⟩ (.int .i32 1)) := (Fr.refl (fun j => j = v) w).set (.inl rfl) _ _
  refine Calls.mono (lk_repair v k w (fun val w' => ∃ gv, val = .tuple #[.slice (some ⟨gv, 0, none⟩) T.L.V T.L.V, .nilIface] ∧ w.heap.size ≤ gv ∧ Rw w' gv T.L.V 9 (tX (reV kt T (blD kt T bl (dnS dn T.L.ns)))) ∧ Fr (fun j => j = q ∨ j = f ∨ j = v) w w') hv ?_) ?_
  · refine Calls.mono (repair_ok kt B k g p q f T un ul rd bl dn zs bd _ (h.set hv (.inr rfl) _ _) hT hle hnm (hG.fr hF0 (fun e => h2 e.symm)) (Nat.le_trans hB hF0.size) ha) ?_
    rintro e w' ⟨zs', bd', gv, rfl, hgv, hR, hS, hF⟩
    have hv1 : VL v k 1 w' := by
      have h1 := VL.one hv
      have hS1 := h.set hv (.inr rfl) 0 (.int .i32 1)
      unfold VL at h1 ⊢
      rw [hF.old v (Array.getElem?_eq_some_iff.1 h1).1 (fun e => by
        rcases e with e | e
        · exact row_ne h1 hS1.blR (by decide) e
        · exact row_ne h1 hS1.fiR (by decide) e)]
      exact h1
    have hgv' : w.heap.size ≤ gv := Nat.le_trans hF0.size hgv
    refine ⟨_, _, rfl, hv1, gv, rfl, hgv', ?_, ?_⟩
    · show (w'.setCell ⟨v, 0, none⟩ (.int .i32 0)).heap[gv]? = _
      rw [set_other _ _ _ _ _ (by omega)]
      exact hR
    · exact ((hF0.mono (T := fun j => j = q ∨ j = f ∨ j = v) (fun j _ e => .inr (.inr e))).trans' (hF.mono (fun j _ e => by rcases e with e | e; exact .inl e; exact .inr (.inl e)))).set (.inl (.inr (.inr rfl))) _ _
  · rintro e w' ⟨a, b, rfl, gv, hval, h1, h2, h3⟩
    exact ⟨gv, by rw [hval], h1, h2, h3⟩
end Go.Proofs.YtadinjaocnlglaaGreatDoor
namespace Go.Proofs.YtadinjaocnlglaaGreatDoor
open Go.RowKit
set_option maxRecDepth 100000
set_option maxHeartbeats 4000000
theorem SS.vs {kt : Nat → Int} {B k g p q f : Nat} {T : TT} {un : Value} {ul : List Nat} {rd : Nat → Bool} {bl : Nat → ByteArray} {w : World} (h : SS B k g p q f T un rd bl w) (hu : w.ownsRow B 3 1 un ul.length (unV ul)) : VS kt B k g p q f T un ul rd bl (fun _ => false) (fun _ => 0) (fun _ => .slice none 0 0) w where
  row := h.row
  hd := h.hd
  unO := hu
  rdR := h.rdR
  blR := by rw [blD_none]; exact h.blR
  fiR := h.fiR.to (fun j _ => by simp [piF, fiP])
  fn := fun s _ hd => by cases hd
/-- volumes that can be opened -/
def Opn (kt : Nat → Int) (rt : ByteArray) (L : Nat → ByteArray) (n : Nat) (s : OS) (t0 : ByteArray) : Prop := (rt.size = 0 ∨ rt.size = 32) ∧ OS.run kt rt 0 (texL L n) OS.new = .ok s ∧ s.hd = some t0
/-- a Vault that was opened -/
def VNew (kt : Nat → Int) (rt : ByteArray) (L : Nat → ByteArray) (n B v : Nat) (w : World) : Prop :=
  ∃ s t0 k g p q f un, Opn kt rt L n s t0 ∧ rdE kt t0 = none ∧ B ≤ v ∧ (B ≤ q ∧ B ≤ f) ∧ VL v k 0 w ∧ VS kt B k g p q f (RS.on t0).told un s.un s.rd s.bl (fun _ => false) (fun _ => 0) (fun _ => .slice none 0 0) w
/-- what vault.Open has answered -/
def VOp (kt : Nat → Int) (rt : ByteArray) (L : Nat → ByteArray) (n : Nat) (w : World) (e : Ending) (w' : World) : Prop := Below w.heap.size w w' ∧
  (((∃ z, e = .returned (.tuple #[.pointer none, .iface 305 (.pointer (some ⟨z, 0, none⟩))])) ∧ ∀ s t0, ¬ Opn kt rt L n s t0) ∨ ∃ v, e = .returned (.tuple #[.pointer (some ⟨v, 0, none⟩), .nilIface]) ∧ VNew kt rt L n w.heap.size v w')
theorem vopen (kt : Nat → Int) (rt : ByteArray) (L : Nat → ByteArray) (n : Nat) (v : Value) (w : World) (hG : Gd kt w) (hn : n ≤ 10000000000000) (hL : ∀ i, i < n → (L i).size ≤ 140737488351232) (hv : (n = 0 ∧ v = .slice none 0 0) ∨ ∃ b cap, v = .slice (some ⟨b, 0, none⟩) n cap ∧ b < w.heap.size ∧ Cl w b n (tI L)) :
    Calls Tryz.prog 60 #[v, .string rt] w fun e w' => VOp kt rt L n w e w' := by
  have HS : Hid (Calls Tryz.prog 104 #[v, .string rt] w fun e w' => Below w.heap.size w w' ∧ (((∃ z, e = .returned (.tuple #[.pointer none, .iface 305 (.pointer (some ⟨z, 0, none⟩))])) ∧ ∀ s t0, ¬ Opn kt rt L n s t0) ∨ ∃ k s t0 g p q f un, e = .returned (.tuple #[.pointer (some ⟨k, 0, none⟩), .nilIface]) ∧ Opn kt rt L n s t0 ∧ rdE kt t0 = none ∧ (w.heap.size ≤ q ∧ w.heap.size ≤ f) ∧ VS kt w.heap.size k g p q f (RS.on t0).told un s.un s.rd s.bl (fun _ => false) (fun _ => 0) (fun _ => .slice none 0 0) w')) := by
    by_cases hrt : rt.size = 0 ∨ rt.size = 32
    · rcases hv with ⟨rfl, rfl⟩ | ⟨b, cap, rfl, hb, hC⟩
      · refine Calls.mono (sopen_nil rt w hrt) ?_
        rintro e w' ⟨v, rfl, ⟨z, hz, _⟩, hB⟩
        cases hz
        refine ⟨hB, .inl ⟨⟨z, rfl⟩, fun s t0 ho => ?_⟩⟩
        obtain ⟨_, h1, h2⟩ := ho
        cases h1
        cases h2
      · refine Calls.mono (sopen kt rt L b n cap w hG hb hC hn hL hrt) ?_
        rintro e w' ⟨hO, hB⟩
        refine ⟨hB, ?_⟩
        unfold OpD at hO
        cases hr : OS.run kt rt 0 (texL L n) OS.new with
        | error ab =>
          obtain ⟨a, b'⟩ := ab
          rw [hr] at hO
          obtain ⟨v, rfl, z, hz, _⟩ := hO
          cases hz
          exact .inl ⟨⟨z, rfl⟩, fun s t0 ho => by have := ho.2.1; rw [hr] at this; cases this⟩
        | ok s =>
          rw [hr] at hO
          rcases hO with ⟨hd, v, rfl, h0, h1⟩ | ⟨hd, k, rfl, hI⟩
          · refine .inl ⟨?_, fun s' t0 ho => by have := ho.2.1; rw [hr] at this; cases this; have := ho.2.2; rw [hd] at this; cases this⟩
            rcases Nat.eq_zero_or_pos n with hn0 | hn0
            · obtain ⟨z, hz, _⟩ := h0 hn0
              cases hz
              exact ⟨z, rfl⟩
            · have hb := first_bad hr hn0 hd
              cases hs : sdE kt rt (L 0) with
              | none => exact absurd hs hb
              | some kp =>
                obtain ⟨z, y, x, hz, _⟩ := h1 hn0 kp.1 kp.2 hs
                cases hz
                exact ⟨_, rfl⟩
          · obtain ⟨un, hun, hc⟩ := hI
            rcases hc with ⟨e, _⟩ | ⟨t0, g, p, q, f, hd0, hr0, hpB, hqB, hfB, hS⟩
            · exact absurd e hd
            · exact .inr ⟨k, s, t0, g, p, q, f, un, rfl, ⟨hrt, hr, hd0⟩, hr0, ⟨hqB, hfB⟩, hS.vs hun⟩
    · refine Calls.mono (sopen_root rt v w (fun e => hrt (.inl e)) (fun e => hrt (.inr e))) ?_
      rintro e w' ⟨z, rfl, _, hB⟩
      exact ⟨hB, .inl ⟨⟨z, rfl⟩, fun s t0 ho => hrt ho.1⟩⟩
  clear hG hn hL hv
  go_enter Tryz.func60, Tryz.ntmps60
  go_wp2_with fail
  refine Calls.mono HS.out ?_
  rintro e w1 ⟨hB, ⟨⟨z, rfl⟩, hno⟩ | ⟨k, s, t0, g, p, q, f, un, rfl, hop, hr0, hq, hV⟩⟩
  · have HB : Hid _ := hB
    have HN : Hid _ := hno
    clear hB hno
    go_wp2_with fail
    go_ret2
    exact ⟨HB.out, .inl ⟨⟨z, rfl⟩, HN.out⟩⟩
  · have hbA : Below w1.heap.size w1 (w1.alloc (.cells (wC 0 k) 159)) := (Below.refl _ _).alloc (Nat.le_refl _) _
    have HE : Hid (VNew kt rt L n w.heap.size w1.heap.size (w1.alloc (.cells (wC 0 k) 159))) := ⟨s, t0, k, g, p, q, f, un, hop, hr0, hB.size, hq, heap_alloc_new _ _, hV.below hbA⟩
    have HB : Hid (Below w.heap.size w (w1.alloc (.cells (wC 0 k) 159))) := hB.trans (hbA.mono hB.size)
    clear hB hop hr0 hq hV hbA
    go_wp2_with fail
    go_ret2
    exact ⟨HB.out, .inr ⟨w1.heap.size, rfl, HE.out⟩⟩
/-- a list that was handed in -/
def RawT (w : World) (a : Option Addr) (n cap : Nat) (L : Nat → ByteArray) : Prop := (a = none ∧ n = 0 ∧ cap = 0) ∨ ∃ ad : Addr, a = some ad ∧ ∀ i, i < n → ∃ b off, ad = ⟨b, off, none⟩ ∧ b < w.heap.size ∧ w.cell? ⟨b, off + i, none⟩ = some (.string (L i))
theorem info9p : (Tryz.prog.info? 9).map (fun i => (i.zero, i.size, i.bytes)) = some (some (.string ⟨#[]⟩), 1, 16) := by kernel_rfl
/-- its copy -/
theorem own_copy (w : World) (a : Option Addr) (n cap : Nat) (L : Nat → ByteArray) (h : RawT w a n cap L) (hn : n * 16 ≤ 140737488351232) : ∃ v w', (Builtin.append_ #[42, 42] 42 #[.slice none 0 0, .slice a n cap]).run Tryz.prog w = .ok v w' ∧ ((n = 0 ∧ v = .slice none 0 0) ∨ (0 < n ∧ w'.ownsRow w.heap.size 9 1 v n (tV L n))) ∧ Below w.heap.size w w' := by
  obtain ⟨i0, hi0, z0, z1, z2⟩ := info_parts info9p
  have hnil : w.ownsRow w.heap.size 9 1 (.slice none 0 0) 0 [] := ⟨rfl, .inl ⟨rfl, rfl⟩⟩
  rcases h with ⟨rfl, rfl, rfl⟩ | ⟨ad, rfl, hc⟩
  · exact ⟨_, w, run_append_owned_none _ w.heap.size 42 42 9 i0 1 Tryz.underlying42 hi0 _ 0 [] hnil, .inl ⟨rfl, rfl⟩, Below.refl _ _⟩
  · obtain ⟨v', w', hr, ho, hg, hiff⟩ := run_append_own (P := Tryz.prog) w w.heap.size 42 42 9 i0 (.string ⟨#[]⟩) 1 16 Tryz.underlying42 hi0 z0 z1 z2 rfl (by decide) (.slice none 0 0) 0 [] hnil ad n cap (tV L n) (by rw [tV_len]; omega) (fun j u hj => by
      have hjn : j < n := by have := (List.getElem?_eq_some_iff.1 hj).1; rwa [tV_len] at this
      obtain ⟨b, off, rfl, _, h2⟩ := hc j hjn
      rw [Addr.add_lit, h2]
      simp [tV, hjn] at hj
      rw [hj]) (tV_one _ _) (by unfold maxLen; omega) (by omega) (Nat.le_refl _)
    rw [Nat.zero_add, List.nil_append] at ho
    have hB : Below w.heap.size w w' := (Below.refl _ _).grown hg (Nat.le_refl _) (fun y hy => by cases hy)
    rcases Nat.eq_zero_or_pos n with h0 | h0
    · exact ⟨v', w', hr, .inl ⟨h0, hiff.2 ⟨rfl, h0⟩⟩, hB⟩
    · exact ⟨v', w', hr, .inr ⟨h0, ho⟩, hB⟩
theorem own_row9 {w : World} {B n : Nat} {v : Value} {L : Nat → ByteArray} (h : w.ownsRow B 9 1 v n (tV L n)) (hn : 0 < n) : ∃ g cap, v = .slice (some ⟨g, 0, none⟩) n cap ∧ B ≤ g ∧ g < w.heap.size ∧ Cl w g n (tI L) := by
  rcases h.2 with ⟨_, h0⟩ | ⟨g, cap, cur, hv, hb, hh, _⟩
  · omega
  · refine ⟨g, cap, hv, hb, (Array.getElem?_eq_some_iff.1 hh).1, fun i hi => ?_⟩
    have := h.cells (g := g) (by rw [hv]; rfl) i (.string (L i)) (by simp [tV, hi])
    rw [Addr.add_lit, Nat.zero_add] at this
    exact this
/-- what opened has answered -/
def KOp (kt : Nat → Int) (rt : ByteArray) (L : Nat → ByteArray) (n : Nat) (w : World) (e : Ending) (w' : World) : Prop := Below w.heap.size w w' ∧
  ((e = .returned (.pointer none) ∧ ∀ s t0, ¬ Opn kt rt L n s t0) ∨ ∃ B v, e = .returned (.pointer (some ⟨v, 0, none⟩)) ∧ w.heap.size ≤ B ∧ B ≤ w'.heap.size ∧ VNew kt rt L n B v w')
theorem opened_any (kt : Nat → Int) (rt : ByteArray) (L : Nat → ByteArray) (a : Option Addr) (n cap : Nat) (w : World) (hG : Gd kt w) (hn : n * 16 ≤ 140737488351232) (hL : ∀ i, i < n → (L i).size ≤ 140737488351232) (hR : RawT w a n cap L) :
    Calls Tryz.prog 21 #[.slice a n cap, .string rt] w fun e w' => KOp kt rt L n w e w' := by
  obtain ⟨v', w1, hr, hcase, hB⟩ := own_copy w a n cap L hR hn
  have HV : Hid _ := vopen kt rt L n v' w1 (hG.below hB) (by omega) hL (by
    rcases hcase with h | ⟨h0, ho⟩
    · exact .inl h
    · obtain ⟨g, c, rfl, _, hg, hC⟩ := own_row9 ho h0
      exact .inr ⟨g, c, rfl, hg, hC⟩)
  have HRUN : Hid _ := hr
  have HB : Hid _ := hB
  clear hr hcase hB hL hR hG
  go_enter Tryz.func21, Tryz.ntmps21
  go_wp2_with (at_builtin; refine wpList_app rfl (.tmp 8) (.tmp 9) 42 rfl _ _ _ (by simp [Act.eval]) (by simp [Act.eval]) _ HRUN.out ?_)
  refine Calls.mono HV.out ?_
  rintro e w2 ⟨hB2, ⟨⟨z, rfl⟩, hno⟩ | ⟨v, rfl, hVN⟩⟩
  · have HB2 : Hid _ := HB.out.trans (hB2.mono HB.out.size)
    have HN : Hid _ := hno
    clear hB2 hno
    go_wp2_with fail
    go_ret
    exact ⟨HB2.out, .inl ⟨rfl, HN.out⟩⟩
  · have HB2 : Hid _ := HB.out.trans (hB2.mono HB.out.size)
    have HSZ : Hid _ := hB2.size
    have HN : Hid _ := hVN
    clear hB2 hVN
    go_wp2_with fail
    go_ret
    exact ⟨HB2.out, .inr ⟨w1.heap.size, v, rfl, HB.out.size, HSZ.out, HN.out⟩⟩
end Go.Proofs.YtadinjaocnlglaaGreatDoor
namespace Go.Proofs.YtadinjaocnlglaaGreatDoor
open Go.RowKit
set_option maxRecDepth 100000
set_option maxHeartbeats 1000000
theorem reV_congr {kt : Nat → Int} {T : TT} {A B : Nat → ByteArray} (h : ∀ x, x < T.L.cnt → A x = B x) (hV : 1 ≤ T.L.V) {v : Nat} (hv : v < T.L.V) : reV kt T A v = reV kt T B v := by
  have hl : ∀ i, i < T.L.cnt → leafT (ofT kt) (A i) = leafT (ofT kt) (B i) := fun i hi => by rw [h i hi]
  have h1 : rootT (ofT kt) T.ls T.L.cnt (fun i => leafT (ofT kt) (A i)) = rootT (ofT kt) T.ls T.L.cnt (fun i => leafT (ofT kt) (B i)) := by
    unfold rootT
    rw [topT_congr (ofT kt) T.L.cnt T.L.cnt _ _ (Nat.le_refl _) hl]
  have h2 : jT (fun i => leafT (ofT kt) (A i)) T.L.cnt = jT (fun i => leafT (ofT kt) (B i)) T.L.cnt := jT_congr hl
  have h3 : jT (fun i => A (v * T.L.cnt / T.L.V + i)) ((v + 1) * T.L.cnt / T.L.V - v * T.L.cnt / T.L.V) = jT (fun i => B (v * T.L.cnt / T.L.V + i)) ((v + 1) * T.L.cnt / T.L.V - v * T.L.cnt / T.L.V) := jT_congr (fun i hi => by
    refine h _ ?_
    have : (v + 1) * T.L.cnt / T.L.V ≤ T.L.cnt := Nat.le_trans (Nat.div_le_div_right (Nat.mul_le_mul_right _ hv)) (by rw [Nat.mul_div_cancel_left _ hV]; exact Nat.le_refl _)
    omega)
  unfold reV volT toldT
  rw [h1, h2, h3]
/-- params and leaves that are the same -/
structure TEq (T T' : TT) : Prop where
  K : T'.L.K = T.L.K
  M : T'.L.M = T.L.M
  C : T'.L.C = T.L.C
  V : T'.L.V = T.L.V
  es : T'.L.es = T.L.es
  lv : T'.lv = T.lv
theorem TEq.n {T T' : TT} (h : TEq T T') : T'.n = T.n := by unfold TT.n; rw [h.K, h.M]
theorem TEq.cnt {T T' : TT} (h : TEq T T') : T'.L.cnt = T.L.cnt := by unfold LT.cnt; rw [h.K, h.M, h.C, h.es]
theorem TEq.ns {T T' : TT} (h : TEq T T') : T'.L.ns = T.L.ns := by unfold LT.ns; rw [h.K, h.C, h.es]
theorem TEq.stF {T T' : TT} (h : TEq T T') (kt : Nat → Int) (bl : Nat → ByteArray) (s : Nat) : stF kt T' bl s = Go.Proofs.YtadinjaocnlglaaGreatDoor.stF kt T bl s := by
  have e1 : stS T' bl s = stS T bl s := by unfold stS; rw [h.n]
  have e2 : stH kt T' bl s = stH kt T bl s := by unfold stH; rw [h.n, h.C, h.lv]
  unfold Go.Proofs.YtadinjaocnlglaaGreatDoor.stF
  rw [e1, e2, h.K, h.M, h.C, h.lv, h.es]
theorem TEq.reV {T T' : TT} (h : TEq T T') (kt : Nat → Int) (A : Nat → ByteArray) : reV kt T' A = Go.Proofs.YtadinjaocnlglaaGreatDoor.reV kt T A := by
  have e1 : T'.ls = T.ls := by unfold TT.ls; rw [h.K, h.M, h.C, h.V, h.es]
  unfold Go.Proofs.YtadinjaocnlglaaGreatDoor.reV
  rw [e1, h.cnt, h.V]
end Go.Proofs.YtadinjaocnlglaaGreatDoor
namespace Go.Proofs.YtadinjaocnlglaaGreatDoor
open Go.RowKit
set_option maxRecDepth 100000
set_option maxHeartbeats 4000000
/-- a stripe's data -/
def stD (kt : Nat → Int) (T : TT) (bl : Nat → ByteArray) (s : Nat) : ByteArray := jT (stM kt T bl s) T.L.K
/-- a byte of the stream -/
def byteS (kt : Nat → Int) (T : TT) (bl : Nat → ByteArray) (x : Nat) : UInt8 := (stD kt T bl (x / (T.L.K * T.L.C))).data.toList.getD (x % (T.L.K * T.L.C)) 0
/-- the stream from one place to another -/
def strS (kt : Nat → Int) (T : TT) (bl : Nat → ByteArray) (a b : Nat) : List UInt8 := (List.range (b - a)).map fun i => byteS kt T bl (a + i)
theorem strS_len (kt : Nat → Int) (T : TT) (bl : Nat → ByteArray) (a b : Nat) : (strS kt T bl a b).length = b - a := by simp [strS]
theorem strS_app (kt : Nat → Int) (T : TT) (bl : Nat → ByteArray) (a b c : Nat) (h1 : a ≤ b) (h2 : b ≤ c) : strS kt T bl a c = strS kt T bl a b ++ strS kt T bl b c := by
  unfold strS
  have e : c - a = (b - a) + (c - b) := by omega
  rw [e, List.range_add, List.map_append, List.map_map]
  congr 1
  apply List.map_congr_left
  intro i _
  show byteS kt T bl (a + (b - a + i)) = byteS kt T bl (b + i)
  congr 1
  omega
/-- a piece of one stripe -/
theorem strS_in {kt : Nat → Int} {T : TT} {bl : Nat → ByteArray} {s a b z : Nat} (hz : T.L.K * T.L.C = z) (h0 : s * z ≤ a) (h1 : a ≤ b) (h2 : b ≤ s * z + z) (hs : (stD kt T bl s).size = z) : ((stD kt T bl s).extract (a - s * z) (b - s * z)).data.toList = strS kt T bl a b := by
  rw [ext_list]
  apply List.ext_getElem?
  intro i
  unfold strS
  by_cases hi : i < b - a
  · rw [List.getElem?_take, if_pos (by omega), List.getElem?_drop, List.getElem?_map, List.getElem?_range hi]
    have hlt : a - s * z + i < z := by omega
    have hd := div_of (s := s) (n := z) (i := a - s * z + i) hlt
    have e : s * z + (a - s * z + i) = a + i := by omega
    rw [e] at hd
    show (stD kt T bl s).data.toList[a - s * z + i]? = some (byteS kt T bl (a + i))
    unfold byteS
    rw [hz, hd.1, hd.2, List.getD_eq_getElem?_getD, List.getElem?_eq_getElem (by rw [dl]; omega)]
    rfl
  · rw [List.getElem?_take, if_neg (by omega), List.getElem?_eq_none (by simp; omega)]
theorem bldAt_kept {B b : Nat} {p : Value} {bs : List Value} {w w' : World} (h : Lib.BuilderAtF 310 5 B b p bs w) (ho : ∀ (j : Nat) (cs : Array Value) (t : TypeId) (fz : Nat × Nat), t = 310 ∨ t = 5 → w.heap[j]? = some (.cells cs t fz) → w'.heap[j]? = some (.cells cs t fz)) : Lib.BuilderAtF 310 5 B b p bs w' := by
  obtain ⟨h1, v, h2, h3, h4⟩ := h
  refine ⟨h1, v, ho _ _ _ _ (.inl rfl) h2, ⟨h3.1, ?_⟩, h4⟩
  rcases h3.2 with h | ⟨g, cap, cur, fz, hv, hg, hh, rest⟩
  · exact .inl h
  · exact .inr ⟨g, cap, cur, fz, hv, hg, ho _ _ _ _ (.inr rfl) hh, rest⟩
theorem Bld.kept {b : Nat} {l : List UInt8} {w w' : World} (h : Bld b l w) (ho : ∀ (j : Nat) (cs : Array Value) (t : TypeId) (fz : Nat × Nat), t = 310 ∨ t = 5 → w.heap[j]? = some (.cells cs t fz) → w'.heap[j]? = some (.cells cs t fz)) : Bld b l w' := by
  rcases h with h | h
  · exact .inl (bldAt_kept h ho)
  · exact .inr (bldAt_kept h ho)
theorem row_neF {w : World} {a b : Nat} {cs cs' : Array Value} {t t' : TypeId} {fz fz' : Nat × Nat} (h : w.heap[a]? = some (.cells cs t fz)) (h' : w.heap[b]? = some (.cells cs' t' fz')) (ht : t ≠ t') : a ≠ b := fun e => by
  rw [e, h'] at h
  simp only [Option.some.injEq, Obj.cells.injEq] at h
  exact ht h.2.1.symm
/-- a Builder beside a Stock whose stripes are worked out -/
theorem VS.bld {kt : Nat → Int} {B k g p q f : Nat} {T : TT} {un : Value} {ul : List Nat} {rd : Nat → Bool} {bl : Nat → ByteArray} {dn : Nat → Bool} {zs : Nat → Nat} {bd : Nat → Value} {w w' : World} {b : Nat} {l : List UInt8} (h : VS kt B k g p q f T un ul rd bl dn zs bd w) (hb : Bld b l w) (hF : Fr (fun j => j = q ∨ j = f) w w') : Bld b l w' :=
  hb.kept (fun j cs t fz ht hj => by
    rw [hF.old j (Array.getElem?_eq_some_iff.1 hj).1 (fun e => by
      rcases e with e | e
      · exact row_neF hj h.blR (by rcases ht with e | e <;> simp [e]) e
      · exact row_neF hj h.fiR (by rcases ht with e | e <;> simp [e]) e)]
    exact hj)
/-- a Stock beside a Builder that was written -/
theorem VS.oth {kt : Nat → Int} {B k g p q f : Nat} {T : TT} {un : Value} {ul : List Nat} {rd : Nat → Bool} {bl : Nat → ByteArray} {dn : Nat → Bool} {zs : Nat → Nat} {bd : Nat → Value} {w w' : World} {b : Nat} {cs0 : Array Value} (h : VS kt B k g p q f T un ul rd bl dn zs bd w) (hb : w.heap[b]? = some (.cells cs0 310 (0, 0))) (hO : Oth b w w') : VS kt B k g p q f T un ul rd bl dn zs bd w' :=
  h.kept (fun j cs t ht hj => hO.row hj (row_ne hj hb (by rcases ht with e | e | e | e | e | e | e <;> simp [e])) (by rcases ht with e | e | e | e | e | e | e <;> simp [e])) (fun j hj => by
    have h3 : ∃ cur, w.heap[j]? = some (.cells cur 3 (0, 0)) := by
      rcases hj with e | ⟨s, hs, hd, e⟩
      · exact own_type h.unO j e
      · exact own_type (h.fn s hs hd).2 j e
    obtain ⟨cur, hcur⟩ := h3
    rw [hO.row hcur (row_ne hcur hb (by decide)) (by decide), hcur])
theorem Bld.row {b : Nat} {l : List UInt8} {w : World} (h : Bld b l w) : ∃ cs, w.heap[b]? = some (.cells cs 310 (0, 0)) := by
  rcases h with ⟨_, v, h2, _⟩ | ⟨_, v, h2, _⟩
  · exact ⟨_, h2⟩
  · exact ⟨_, h2⟩
end Go.Proofs.YtadinjaocnlglaaGreatDoor
