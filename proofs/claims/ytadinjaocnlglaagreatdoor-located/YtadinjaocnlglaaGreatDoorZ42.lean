/-
  The walk of vaultkeep's planned.
  Plain: volumes that lose parts, as data.
-/
import Derived.Test.YtadinjaocnlglaaGreatDoorZ41
import Derived.BigRegion
namespace Go.Proofs.YtadinjaocnlglaaGreatDoor
open Go.RowKit
set_option maxRecDepth 100000
set_option maxHeartbeats 4000000
/-- a number behind a list that a struct holds -/
theorem fld_app {w : World} {B r k : Nat} {ty : TypeId} {cs : Array Value} {v : Value} {xs : List Nat} (x : Nat) (hr : w.heap[r]? = some (.cells cs ty (0, 0))) (hty : ty ≠ 3) (ho : w.ownsRow B 3 1 v xs.length (unV xs)) (hB : B ≤ w.heap.size) (hx : xs.length ≤ 1000000) :
    ∃ v' w2, (Builtin.append_ #[39, 39] 39 #[v, .slice (some ⟨w.heap.size, 0, none⟩) 1 1]).run Tryz.prog (w.alloc (.cells #[.int .i64 x] 3)) = .ok v' w2 ∧ (w2.setCell ⟨r, k, none⟩ v').ownsRow B 3 1 v' (xs ++ [x]).length (unV (xs ++ [x])) ∧ w2.heap[r]? = some (.cells cs ty (0, 0)) ∧ (w2.setCell ⟨r, k, none⟩ v').heap[r]? = some (.cells (cs.setIfInBounds k v') ty (0, 0))
      ∧ (∀ j, j < w.heap.size → j ≠ r → v.ownBlock ≠ some j → (w2.setCell ⟨r, k, none⟩ v').heap[j]? = w.heap[j]?) ∧ (v'.ownBlock = v.ownBlock ∨ v'.ownBlock = some (w.heap.size + 1)) ∧ (B ≤ r → ∀ w0, Below B w0 w → Below B w0 (w2.setCell ⟨r, k, none⟩ v')) := by
  obtain ⟨i0, hi0, z0, z1, z2⟩ := info_parts info3
  have hrl : r < w.heap.size := (Array.getElem?_eq_some_iff.1 hr).1
  have hva : (w.alloc (.cells #[.int .i64 x] 3)).ownsRow B 3 1 v xs.length (unV xs) := ho.alloc _
  have hra : (w.alloc (.cells #[.int .i64 x] 3)).heap[r]? = some (.cells cs ty (0, 0)) := by rw [heap_alloc_old _ _ hrl]; exact hr
  have hsz : (w.alloc (.cells #[.int .i64 x] 3)).heap.size = w.heap.size + 1 := by simp
  obtain ⟨v', w2, hrun, ho2, hg, hb⟩ := app_rows 39 Tryz.underlying39 hi0 z0 z1 z2 rfl (by decide) hva (own_one w x) (by intro u hu; simp at hu; subst hu; rfl) (by omega) (by omega) (by omega)
  have hne : v.ownBlock ≠ some r := fun e => by
    obtain ⟨cur, hcur⟩ := own_type ho r e
    rw [hr] at hcur
    simp only [Option.some.injEq, Obj.cells.injEq] at hcur
    exact hty hcur.2.1
  have hr2 : w2.heap[r]? = some (.cells cs ty (0, 0)) := by
    rw [hg.block r (by omega) (fun e => hne e.symm)]; exact hra
  have hne' : v'.ownBlock ≠ some r := fun e => by
    rcases hb with h | h
    · exact hne (h.symm.trans e)
    · rw [h] at e; have := Option.some.inj e; omega
  refine ⟨v', w2, hrun, ?_, hr2, set_heap _ _ _ _ _ _ _ hr2, fun j hj h1 h2 => ?_, by rw [hsz] at hb; exact hb, fun hBr w0 hw0 => ?_⟩
  · have e1 : (xs ++ [x]).length = xs.length + 1 := by simp
    have e2 : unV (xs ++ [x]) = unV xs ++ [.int .i64 (x : Nat)] := by simp [unV]
    rw [e1, e2]
    exact own_kept ho2 (fun y hy => set_other _ _ _ _ _ (fun e => hne' (by rw [← e]; exact hy)))
  · rw [set_other _ _ _ _ _ h1, hg.block j (by omega) (fun e => h2 e.symm), heap_alloc_old _ _ hj]
  · have h1 : Below B w0 (w.alloc (.cells #[.int .i64 x] 3)) := hw0.alloc hB _
    exact (h1.grown hg (by omega) (fun y hy => own_ge ho y hy)).setCell (p := ⟨r, k, none⟩) hBr _
/-- a row of a Plan in the making -/
def plC (K M C V ns nb : Nat) (fv pv : Value) : Array Value := #[.int .i64 K, .int .i64 M, .int .i64 C, .int .i64 V, .int .i64 ns, .int .i64 nb, fv, pv]
structure PI (w0 : World) (pb x K M C V ns nb : Nat) (fv : Value) (l1 : List Nat) (pv : Value) (l2 : List Nat) (w : World) : Prop where
  bx : w.heap[pb]? = some (.cells #[.int .i64 K, .int .i64 M, .int .i64 C, .int .i64 V] 23 (0, 0))
  row : w.heap[x]? = some (.cells (plC K M C V ns nb fv pv) 84 (0, 0))
  o1 : w.ownsRow w0.heap.size 3 1 fv l1.length (unV l1)
  o2 : w.ownsRow w0.heap.size 3 1 pv l2.length (unV l2)
  ap : ∀ j, fv.ownBlock = some j → pv.ownBlock ≠ some j
  bel : Below w0.heap.size w0 w
  lo : w0.heap.size ≤ x
theorem PI.fst {w0 : World} {pb x K M C V ns nb : Nat} {fv : Value} {l1 : List Nat} {pv : Value} {l2 : List Nat} {w : World} (h : PI w0 pb x K M C V ns nb fv l1 pv l2 w) (y : Nat) (hl : l1.length ≤ 1000) :
    ∃ v' w2, (Builtin.append_ #[39, 39] 39 #[fv, .slice (some ⟨w.heap.size, 0, none⟩) 1 1]).run Tryz.prog (w.alloc (.cells #[.int .i64 y] 3)) = .ok v' w2 ∧ PI w0 pb x K M C V ns nb v' (l1 ++ [y]) pv l2 (w2.setCell ⟨x, 6, none⟩ v') ∧ w2.heap[x]? = some (.cells (plC K M C V ns nb fv pv) 84 (0, 0)) := by
  obtain ⟨v', w2, hrun, ho, hr, hr2, hk, hb, hbel⟩ := fld_app (k := 6) y h.row (by decide) h.o1 h.bel.size (by omega)
  refine ⟨v', w2, hrun, ⟨?_, hr2, ho, ?_, ?_, hbel h.lo _ h.bel, h.lo⟩, hr⟩
  · rw [hk pb (Array.getElem?_eq_some_iff.1 h.bx).1 (row_ne h.bx h.row (by decide)) (fun e => by
      obtain ⟨cur, hcur⟩ := own_type h.o1 pb e
      exact row_ne h.bx hcur (by decide) rfl)]
    exact h.bx
  · refine own_kept h.o2 (fun j hj => hk j (own_lt h.o2 j hj) (fun e => ?_) (fun e => h.ap j e hj))
    obtain ⟨cur, hcur⟩ := own_type h.o2 j hj
    exact row_ne hcur h.row (by decide) e
  · intro j h1 h2
    rcases hb with e | e
    · exact h.ap j (e.symm.trans h1) h2
    · have := own_lt h.o2 j h2
      rw [e] at h1
      have := Option.some.inj h1
      omega
theorem PI.plc {w0 : World} {pb x K M C V ns nb : Nat} {fv : Value} {l1 : List Nat} {pv : Value} {l2 : List Nat} {w : World} (h : PI w0 pb x K M C V ns nb fv l1 pv l2 w) (y : Nat) (hl : l2.length ≤ 1000) :
    ∃ v' w2, (Builtin.append_ #[39, 39] 39 #[pv, .slice (some ⟨w.heap.size, 0, none⟩) 1 1]).run Tryz.prog (w.alloc (.cells #[.int .i64 y] 3)) = .ok v' w2 ∧ PI w0 pb x K M C V ns nb fv l1 v' (l2 ++ [y]) (w2.setCell ⟨x, 7, none⟩ v') ∧ w2.heap[x]? = some (.cells (plC K M C V ns nb fv pv) 84 (0, 0)) := by
  obtain ⟨v', w2, hrun, ho, hr, hr2, hk, hb, hbel⟩ := fld_app (k := 7) y h.row (by decide) h.o2 h.bel.size (by omega)
  refine ⟨v', w2, hrun, ⟨?_, hr2, ?_, ho, ?_, hbel h.lo _ h.bel, h.lo⟩, hr⟩
  · rw [hk pb (Array.getElem?_eq_some_iff.1 h.bx).1 (row_ne h.bx h.row (by decide)) (fun e => by
      obtain ⟨cur, hcur⟩ := own_type h.o2 pb e
      exact row_ne h.bx hcur (by decide) rfl)]
    exact h.bx
  · refine own_kept h.o1 (fun j hj => hk j (own_lt h.o1 j hj) (fun e => ?_) (fun e => h.ap j hj e))
    obtain ⟨cur, hcur⟩ := own_type h.o1 j hj
    exact row_ne hcur h.row (by decide) e
  · intro j h1 h2
    rcases hb with e | e
    · exact h.ap j h1 (e.symm.trans h2)
    · have := own_lt h.o1 j h1
      rw [e] at h2
      have := Option.some.inj h2
      omega
theorem unV_cells {w : World} {B : Nat} {a : Option Addr} {n c : Nat} {l : List Nat} (h : w.ownsRow B 3 1 (.slice a n c) n (unV l)) (hn : 0 < n) : ∃ g, a = some ⟨g, 0, none⟩ ∧ B ≤ g ∧ ∀ i (hi : i < l.length), w.cell? ⟨g, i, none⟩ = some (.int .i64 (l[i] : Nat)) := by
  rcases h.2 with ⟨_, h2⟩ | ⟨g, cap, cur, hv, hB, hh, _⟩
  · omega
  · cases hv
    refine ⟨g, rfl, hB, fun i hi => ?_⟩
    have := h.cells (g := g) rfl i _ (show (unV l)[i]? = some (.int .i64 (l[i] : Nat)) by simp [unV, hi])
    rw [Addr.add_lit, Nat.zero_add] at this
    exact this
end Go.Proofs.YtadinjaocnlglaaGreatDoor
namespace Go.Proofs.YtadinjaocnlglaaGreatDoor
open Go.RowKit Go.Maps
set_option maxRecDepth 100000
set_option maxHeartbeats 1000000
theorem cnt_not (h : Nat → Bool) : ∀ n, cnt h n + cnt (fun j => !h j) n = n
  | 0 => rfl
  | n + 1 => by
    have := cnt_not h n
    rw [cnt, cnt]
    cases h n <;> simp <;> omega
theorem cnt_none (h : Nat → Bool) : ∀ n, (∀ j, j < n → h j = false) → cnt h n = 0
  | 0, _ => rfl
  | n + 1, e => by rw [cnt, cnt_none h n (fun j hj => e j (by omega)), e n (by omega)]; rfl
/-- blocks that are lost, and those of a range too -/
def mkB (lost : Nat → Bool) (a b : Nat) : Nat → Bool := fun x => lost x || (decide (a ≤ x) && decide (x < b))
theorem mkB_old {lost : Nat → Bool} {a b x : Nat} (h : mkB lost a b x = false) : lost x = false ∧ ¬ (a ≤ x ∧ x < b) := by
  unfold mkB at h
  simp only [Bool.or_eq_false_iff, Bool.and_eq_false_iff, decide_eq_false_iff_not] at h
  exact ⟨h.1, fun e => by rcases h.2 with h | h <;> omega⟩
theorem mkB_up {lost : Nat → Bool} {a b x : Nat} (h : lost x = true) : mkB lost a b x = true := by unfold mkB; rw [h]; rfl
theorem mkB_in {lost : Nat → Bool} {a b x : Nat} (h1 : a ≤ x) (h2 : x < b) : mkB lost a b x = true := by unfold mkB; rw [decide_eq_true h1, decide_eq_true h2]; simp
def May (K M ns : Nat) (lost : Nat → Bool) (a b : Nat) : Prop := ∀ s, s < ns → cnt (fun i => mkB lost a b (s * (K + M) + i)) (K + M) ≤ M
def updC (f : Nat → Nat) (k v : Nat) : Nat → Nat := fun j => if j = k then v else f j
/-- what is left of volumes -/
structure WIv (K M C V nb ns : Nat) (B : Nat → ByteArray) (lost out : Nat → Bool) (cut : Nat → Nat) (R : Nat → ByteArray) : Prop where
  sz : ∀ v, v < V → (R v).size = ((v + 1) * nb / V - v * nb / V) * C
  lo : ∀ v, v < V → v * nb / V ≤ cut v
  hi : ∀ v, v < V → cut v ≤ (v + 1) * nb / V
  asw : ∀ v, v < V → ∀ i, v * nb / V + i < (v + 1) * nb / V → lost (v * nb / V + i) = false → pc (R v) C i = B (v * nb / V + i)
  ct : ∀ v, v < V → ∀ x, cut v ≤ x → x < (v + 1) * nb / V → lost x = true
  ou : ∀ v, v < V → out v = true → ∀ x, v * nb / V ≤ x → x < (v + 1) * nb / V → lost x = true
  few : ∀ s, s < ns → cnt (fun i => lost (s * (K + M) + i)) (K + M) ≤ M
  left : ∃ v, v < V ∧ out v = false
section
variable {K M C V nb ns : Nat} {B : Nat → ByteArray} {lost out : Nat → Bool} {cut : Nat → Nat} {R R' : Nat → ByteArray}
theorem WIv.zero (h : WIv K M C V nb ns B lost out cut R) {n u : Nat} (h1 : u * nb / V ≤ n) (hm : May K M ns lost n (n + 1)) (ho : ∀ v, v ≠ u → R' v = R v) (hz : (R' u).size = (R u).size) (hp : ∀ i, i ≠ n - u * nb / V → pc (R' u) C i = pc (R u) C i) : WIv K M C V nb ns B (mkB lost n (n + 1)) out cut R' where
  sz := fun v hv => by
    by_cases e : v = u
    · subst e; rw [hz]; exact h.sz v hv
    · rw [ho v e]; exact h.sz v hv
  lo := h.lo
  hi := h.hi
  asw := fun v hv i hi hl => by
    obtain ⟨l1, l2⟩ := mkB_old hl
    by_cases e : v = u
    · subst e; rw [hp i (fun e => l2 (by omega))]; exact h.asw v hv i hi l1
    · rw [ho v e]; exact h.asw v hv i hi l1
  ct := fun v hv x a b => mkB_up (h.ct v hv x a b)
  ou := fun v hv o x a b => mkB_up (h.ou v hv o x a b)
  few := hm
  left := h.left
theorem WIv.cuts (h : WIv K M C V nb ns B lost out cut R) {v f : Nat} (h1 : v * nb / V ≤ f) (h2 : f ≤ (v + 1) * nb / V) (hm : May K M ns lost f ((v + 1) * nb / V)) : WIv K M C V nb ns B (mkB lost f ((v + 1) * nb / V)) out (updC cut v f) R where
  sz := h.sz
  lo := fun u hu => by unfold updC; split; (· rename_i e; subst e; exact h1); exact h.lo u hu
  hi := fun u hu => by unfold updC; split; (· rename_i e; subst e; exact h2); exact h.hi u hu
  asw := fun u hu i hi hl => h.asw u hu i hi (mkB_old hl).1
  ct := fun u hu x a b => by
    unfold updC at a
    by_cases e : u = v
    · subst e; rw [if_pos rfl] at a; exact mkB_in a b
    · rw [if_neg e] at a; exact mkB_up (h.ct u hu x a b)
  ou := fun u hu o x a b => mkB_up (h.ou u hu o x a b)
  few := hm
  left := h.left
theorem WIv.outs (h : WIv K M C V nb ns B lost out cut R) {v : Nat} (hm : May K M ns lost (v * nb / V) ((v + 1) * nb / V)) (hl : (∃ u, u < V ∧ u ≠ v ∧ out u = false) ∨ out v = true) : WIv K M C V nb ns B (mkB lost (v * nb / V) ((v + 1) * nb / V)) (updB out v true) cut R where
  sz := h.sz
  lo := h.lo
  hi := h.hi
  asw := fun u hu i hi hl => h.asw u hu i hi (mkB_old hl).1
  ct := fun u hu x a b => mkB_up (h.ct u hu x a b)
  ou := fun u hu o x a b => by
    unfold updB at o
    by_cases e : u = v
    · subst e; exact mkB_in a b
    · rw [if_neg e] at o; exact mkB_up (h.ou u hu o x a b)
  few := hm
  left := by
    rcases hl with ⟨u, hu, hne, ho⟩ | ho
    · exact ⟨u, hu, by unfold updB; rw [if_neg hne]; exact ho⟩
    · obtain ⟨u, hu, h0⟩ := h.left
      refine ⟨u, hu, ?_⟩
      unfold updB
      rw [if_neg (fun e => by rw [e, ho] at h0; cases h0)]
      exact h0
end
/-- nothing is lost so far -/
theorem VOk.wi {K M C V nb : Nat} {es : List (ByteArray × Nat)} {s : ByteArray} (h : VOk K M C V nb es s) (ns : Nat) : WIv K M C V nb ns (bkT K M C s) (fun _ => false) (fun _ => false) (fun v => (v + 1) * nb / V) (reE K M C V s) where
  sz := fun v hv => (h.rest hv).1
  lo := fun v _ => Nat.div_le_div_right (Nat.mul_le_mul_right _ (by omega))
  hi := fun v _ => Nat.le_refl _
  asw := fun v hv i hi _ => (h.rest hv).2 i (by omega)
  ct := fun v hv x a b => absurd b (by omega)
  ou := fun v hv o => by cases o
  few := fun s _ => by rw [cnt_none _ _ (fun _ _ => rfl)]; omega
  left := ⟨0, h.lok.v1, rfl⟩
/-- which volumes are left -/
def kpL (out : Nat → Bool) (V : Nat) : List Nat := (List.range V).filter (fun v => !out v)
theorem kpL_succ (out : Nat → Bool) (i : Nat) : kpL out (i + 1) = kpL out i ++ (if out i = true then [] else [i]) := by
  unfold kpL
  rw [List.range_succ, List.filter_append]
  cases h : out i <;> simp [h]
theorem kpL_mem {out : Nat → Bool} {V v : Nat} : v ∈ kpL out V ↔ v < V ∧ out v = false := by
  unfold kpL
  simp [List.mem_filter]
theorem kpL_nodup (out : Nat → Bool) (V : Nat) : (kpL out V).Nodup := List.Pairwise.filter _ List.nodup_range
theorem kpL_len (out : Nat → Bool) (V : Nat) : (kpL out V).length ≤ V := by
  unfold kpL
  exact Nat.le_trans (List.length_filter_le _ _) (by simp)
theorem pc_take {t : ByteArray} {C k i : Nat} (h : i < k) : pc (t.extract 0 (k * C)) C i = pc t C i := by
  apply ba_ext
  unfold pc
  have h1 : (i + 1) * C ≤ k * C := Nat.mul_le_mul_right _ h
  have h2 : i * C ≤ (i + 1) * C := Nat.mul_le_mul_right _ (by omega)
  rw [ext_list, ext_list, ext_list, Nat.sub_zero, List.drop_zero, List.drop_take, List.take_take, Nat.min_eq_left (by omega)]
/-- a text with another in the place of a part -/
def wBk (t : ByteArray) (k : Nat) (z : ByteArray) : ByteArray := t.extract 0 k ++ z ++ t.extract (k + z.size) t.size
def updT (L : Nat → ByteArray) (u : Nat) (t : ByteArray) : Nat → ByteArray := fun j => if j = u then t else L j
theorem wBk_list (t : ByteArray) (k : Nat) (z : ByteArray) : (wBk t k z).data.toList = t.data.toList.take k ++ z.data.toList ++ t.data.toList.drop (k + z.data.toList.length) := by
  unfold wBk
  rw [app_list, app_list, ext_list, ext_list, List.drop_zero, Nat.sub_zero, dl]
  congr 1
  rw [List.take_of_length_le]
  rw [List.length_drop, dl]
  omega
theorem wBk_size {t : ByteArray} {k : Nat} {z : ByteArray} (h : k + z.size ≤ t.size) : (wBk t k z).size = t.size := by
  rw [← dl, wBk_list]
  simp only [List.length_append, List.length_take, List.length_drop, dl]
  omega
theorem wBk_hd (hd R : ByteArray) (k : Nat) (z : ByteArray) : wBk (hd ++ R) (hd.size + k) z = hd ++ wBk R k z := by
  apply ba_ext
  rw [wBk_list, app_list, app_list, wBk_list]
  rw [← dl hd, List.take_length_add_append, Nat.add_assoc, List.drop_length_add_append]
  simp only [List.append_assoc]
/-- what a loss does -/
def Tk (K M C V ns nb : Nat) (pl : Nat → Nat) (lost out : Nat → Bool) (cut : Nat → Nat) (L : Nat → ByteArray) (lost' out' : Nat → Bool) (cut' : Nat → Nat) (L' : Nat → ByteArray) : Prop :=
  (lost' = lost ∧ out' = out ∧ cut' = cut ∧ L' = L) ∨
  (∃ n u z, u < V ∧ u * nb / V ≤ n ∧ n < (u + 1) * nb / V ∧ z.size = C ∧ May K M ns lost n (n + 1) ∧ lost' = mkB lost n (n + 1) ∧ out' = out ∧ cut' = cut ∧ L' = updT L u (wBk (L u) (pl u + (n - u * nb / V) * C) z)) ∨
  (∃ v f, v < V ∧ v * nb / V ≤ f ∧ f ≤ (v + 1) * nb / V ∧ May K M ns lost f ((v + 1) * nb / V) ∧ lost' = mkB lost f ((v + 1) * nb / V) ∧ out' = out ∧ cut' = updC cut v f ∧ L' = L) ∨
  (∃ v, v < V ∧ May K M ns lost (v * nb / V) ((v + 1) * nb / V) ∧ ((∃ u, u < V ∧ u ≠ v ∧ out u = false) ∨ out v = true) ∧ lost' = mkB lost (v * nb / V) ((v + 1) * nb / V) ∧ out' = updB out v true ∧ cut' = cut ∧ L' = L)
theorem ext_hd (hd R : ByteArray) (k : Nat) : (hd ++ R).extract 0 (hd.size + k) = hd ++ R.extract 0 k := by
  apply ba_ext
  rw [ext_list, app_list, app_list, ext_list, List.drop_zero, List.drop_zero, Nat.sub_zero, Nat.sub_zero, ← dl hd, List.take_length_add_append]
theorem bk_hd (hd R : ByteArray) (C i : Nat) : (hd ++ R).extract (hd.size + i * C) (hd.size + i * C + C) = pc R C i := by
  apply ba_ext
  unfold pc
  rw [ext_list, app_list, ext_list, ← dl hd, List.drop_length_add_append, Nat.add_sub_cancel_left, Nat.succ_mul, Nat.add_sub_cancel_left]
theorem cnt_le (h : Nat → Bool) (n : Nat) : cnt h n ≤ n := by have := cnt_not h n; omega
end Go.Proofs.YtadinjaocnlglaaGreatDoor
