/-
  The walks of vaultkeep's amount, volumeOf, block, clash; a Plan.
  The walk of vaultkeep's planned.
-/
import Derived.Test.YtadinjaocnlglaaGreatDoorZ40
import Derived.BigRegion
namespace Go.Proofs.YtadinjaocnlglaaGreatDoor
open Go.RowKit
set_option maxRecDepth 100000
set_option maxHeartbeats 4000000
/-- a Plan -/
structure Pln (x gf cf gp cp K M C V ns nb : Nat) (pl : Nat → Nat) (w : World) : Prop where
  row : w.heap[x]? = some (.cells #[.int .i64 K, .int .i64 M, .int .i64 C, .int .i64 V, .int .i64 ns, .int .i64 nb, .slice (some ⟨gf, 0, none⟩) (V + 1) cf, .slice (some ⟨gp, 0, none⟩) V cp] 84 (0, 0))
  fst : ∀ v, v ≤ V → w.cell? ⟨gf, v, none⟩ = some (.int .i64 ((v * nb / V : Nat) : Int))
  plc : ∀ v, v < V → w.cell? ⟨gp, v, none⟩ = some (.int .i64 (pl v : Nat))
theorem Pln.kept {x gf cf gp cp K M C V ns nb : Nat} {pl : Nat → Nat} {w w' : World} (h : Pln x gf cf gp cp K M C V ns nb pl w) (hk : ∀ j, j = x ∨ j = gf ∨ j = gp → w'.heap[j]? = w.heap[j]?) : Pln x gf cf gp cp K M C V ns nb pl w' where
  row := (hk x (.inl rfl)).trans h.row
  fst := fun v hv => (World.cell?_of_block (a := ⟨gf, v, none⟩) (hk gf (.inr (.inl rfl)))).trans (h.fst v hv)
  plc := fun v hv => (World.cell?_of_block (a := ⟨gp, v, none⟩) (hk gp (.inr (.inr rfl)))).trans (h.plc v hv)
theorem Pln.lt {x gf cf gp cp K M C V ns nb : Nat} {pl : Nat → Nat} {w : World} (h : Pln x gf cf gp cp K M C V ns nb pl w) (hV : 1 ≤ V) : x < w.heap.size ∧ gf < w.heap.size ∧ gp < w.heap.size := ⟨(Array.getElem?_eq_some_iff.1 h.row).1, block_lt_of_cell (h.fst 0 (by omega)), block_lt_of_cell (h.plc 0 (by omega))⟩
theorem Pln.below {x gf cf gp cp K M C V ns nb : Nat} {pl : Nat → Nat} {w w' : World} (h : Pln x gf cf gp cp K M C V ns nb pl w) {B : Nat} (hB : x < B ∧ gf < B ∧ gp < B) (hb : Below B w w') : Pln x gf cf gp cp K M C V ns nb pl w' :=
  h.kept (fun j hj => hb.block j (by rcases hj with e | e | e <;> omega))
theorem amount_any (F : Nat → Ob) (q lc : Nat) (la : Option Addr) (w : World) (hq : q ≤ 1000000) (hs : ∀ j, j < q → (F j).2.size ≤ 1000000) (hL : ∀ i, i < q → ∃ g, la = some ⟨g, 0, none⟩ ∧ w.cell? ⟨g, i * 2, none⟩ = some (.string (F i).1) ∧ w.cell? ⟨g, i * 2 + 1, none⟩ = some (.string (F i).2)) :
    Calls Tryz.prog 75 #[.slice la q lc] w fun e w' => e = .returned (.int .i64 ((smF F q).size : Nat)) ∧ w' = w := by
  have hsz : ∀ i, i ≤ q → (smF F i).size ≤ i * 1000000 := fun i hi => jT_size _ 1000000 i (fun j hj => hs j (by omega))
  have hst : ∀ i, (smF F (i + 1)).size = (smF F i).size + (F i).2.size := fun i => by
    rw [sm_size, sm_size, esF_sum, esF_sum, ← dl (F i).2, ← List.length_append]
    congr 1
    simp [jL, List.range_succ]
  have HL : Hid _ := hL
  have HZ : Hid _ := hsz
  have HT : Hid _ := hst
  have HS : Hid _ := hs
  clear hL hsz hst hs
  go_enter Tryz.func75, Tryz.ntmps75
  go_wp2_with fail
  go_loopw [4, 3] (fun iv nv wr => ∃ i : Nat, i ≤ q ∧ iv = .int .i64 i ∧ nv = .int .i64 ((smF F i).size : Nat) ∧ wr = w) (fun iv _ _ => q - (intOf iv).toNat)
  case atStart => exact ⟨0, by omega, rfl, rfl, rfl⟩
  case round =>
    obtain ⟨i, hi, rfl, rfl, hw⟩ := hrel
    subst hw
    have z1 := HZ.out i hi
    by_cases hlt : i < q
    · have hin : (i : Int) < (q : Int) := by omega
      obtain ⟨g, ha, x0, x1⟩ := HL.out i hlt
      subst ha
      have z2 := HS.out i hlt
      obtain ⟨A, hA⟩ : ∃ A, (smF F i).size = A := ⟨_, rfl⟩
      have hA1 : A ≤ 1000000000000 := by rw [← hA]; exact Nat.le_trans z1 (by omega)
      rw [hA]
      go_wp2_with fail
      go_roundw
      case rel => exact ⟨i + 1, by omega, by go_num, by rw [HT.out i, hA]; go_num, by first | rfl | trivial⟩
      case measure => simp [intOf]; omega
    · have hin : ¬ (i : Int) < (q : Int) := by omega
      obtain rfl : i = q := by omega
      go_wp2_with fail
      go_ret
      exact ⟨rfl, rfl⟩
theorem rng_le {nb V a b : Nat} (h : a ≤ b) : a * nb / V ≤ b * nb / V := Nat.div_le_div_right (Nat.mul_le_mul_right _ h)
theorem rng_top {nb V v : Nat} (hV : 1 ≤ V) (hv : v ≤ V) : v * nb / V ≤ nb := Nat.le_trans (rng_le hv) (by rw [Nat.mul_div_cancel_left _ hV]; exact Nat.le_refl _)
theorem volumeOf_any (x gf cf gp cp K M C V ns nb n v : Nat) (pl : Nat → Nat) (w : World) (h : Pln x gf cf gp cp K M C V ns nb pl w) (hV : V ≤ 1000) (hv : v < V) (h1 : v * nb / V ≤ n) (h2 : n < (v + 1) * nb / V) :
    Calls Tryz.prog 77 #[.pointer (some ⟨x, 0, none⟩), .int .i64 n] w fun e w' => e = .returned (.int .i64 v) ∧ w' = w := by
  have c3 : w.cell? ⟨x, 6, none⟩ = some (.slice (some ⟨gf, 0, none⟩) (V + 1) cf) := cell_of_row _ _ _ _ 84 _ h.row
  have HF : Hid _ := h.fst
  have H1 : Hid _ := h1
  have H2 : Hid _ := h2
  clear h h1 h2
  go_enter Tryz.func77, Tryz.ntmps77
  go_wp2_with fail
  go_loopw [5] (fun iv wr => ∃ i : Nat, i ≤ v ∧ iv = .int .i64 i ∧ wr = w) (fun iv _ => v - (intOf iv).toNat)
  case atStart => exact ⟨0, by omega, rfl, rfl⟩
  case round =>
    obtain ⟨i, hi, rfl, hw⟩ := hrel
    subst hw
    have f := HF.out (i + 1) (by omega)
    obtain ⟨A, hA⟩ : ∃ A, (i + 1) * nb / V = A := ⟨_, rfl⟩
    rw [hA] at f
    by_cases hlt : i < v
    · have hle : (A : Int) ≤ (n : Int) := by
        have := rng_le (nb := nb) (V := V) (show i + 1 ≤ v by omega)
        have h1 := H1.out
        rw [hA] at this
        omega
      have f' : wr.cell? ⟨gf, i + 1, none⟩ = some (.int .i64 (A : Nat)) := f
      clear hA f
      go_wp2_with fail
      go_roundw
      case rel => exact ⟨i + 1, by omega, by go_num, by first | rfl | trivial⟩
      case measure => simp [intOf]; omega
    · obtain rfl : i = v := by omega
      have hle : ¬ (A : Int) ≤ (n : Int) := by
        have h2 := H2.out
        rw [hA] at h2
        omega
      have f' : wr.cell? ⟨gf, i + 1, none⟩ = some (.int .i64 (A : Nat)) := f
      clear hA f
      go_wp2_with fail
      go_ret
      exact ⟨rfl, rfl⟩
/-- a block out of a volume -/
def bkO (t : ByteArray) (p C i : Nat) : ByteArray := t.extract (p + i * C) (p + i * C + C)
theorem block_any (x gf cf gp cp K M C V ns nb n v gv cv : Nat) (pl : Nat → Nat) (L : Nat → ByteArray) (w : World) (h : Pln x gf cf gp cp K M C V ns nb pl w) (hV : V ≤ 1000) (hC : C ≤ 1000) (hnb : nb ≤ 1000000) (hv : v < V) (h1 : v * nb / V ≤ n) (h2 : n < (v + 1) * nb / V)
    (hp : pl v ≤ 1000000000) (hL : ∀ v, v < V → w.cell? ⟨gv, v, none⟩ = some (.string (L v))) (hfit : pl v + (n - v * nb / V) * C + C ≤ (L v).size) :
    Calls Tryz.prog 35 #[.pointer (some ⟨x, 0, none⟩), .slice (some ⟨gv, 0, none⟩) V cv, .int .i64 n] w fun e w' => e = .returned (.string (bkO (L v) (pl v) C (n - v * nb / V))) ∧ ∃ m, w' = w.drewN m := by
  have HV : Hid _ := volumeOf_any x gf cf gp cp K M C V ns nb n v pl w h hV hv h1 h2
  have c2 : w.cell? ⟨x, 2, none⟩ = some (.int .i64 C) := cell_of_row _ _ _ _ 84 _ h.row
  have c3 : w.cell? ⟨x, 6, none⟩ = some (.slice (some ⟨gf, 0, none⟩) (V + 1) cf) := cell_of_row _ _ _ _ 84 _ h.row
  have c4 : w.cell? ⟨x, 7, none⟩ = some (.slice (some ⟨gp, 0, none⟩) V cp) := cell_of_row _ _ _ _ 84 _ h.row
  have f := h.fst v (by omega)
  have p := h.plc v hv
  have l := hL v hv
  have hn : n ≤ 1000000 := by have := rng_top (nb := nb) (v := v + 1) (by omega : 1 ≤ V) (by omega); omega
  obtain ⟨A, hA⟩ : ∃ A, v * nb / V = A := ⟨_, rfl⟩
  rw [hA] at f h1 hfit ⊢
  obtain ⟨P, hP⟩ : ∃ P, pl v = P := ⟨_, rfl⟩
  rw [hP] at p hp hfit ⊢
  obtain ⟨i, hi⟩ : ∃ i, n - A = i := ⟨_, rfl⟩
  rw [hi] at hfit ⊢
  have hiC : i * C ≤ 1000000 * 1000 := Nat.mul_le_mul (by omega) hC
  obtain ⟨Z, hZ⟩ : ∃ Z, i * C = Z := ⟨_, rfl⟩
  have e1 : IntKind.i64.wrap ((n : Int) - (A : Int)) = (i : Int) := by rw [IntKind.wrap_i64]; omega
  have e2 : IntKind.i64.wrap ((i : Int) * (C : Int)) = (Z : Int) := by rw [← Int.natCast_mul, hZ, IntKind.wrap_i64]; omega
  rw [hZ] at hfit hiC
  have hb : bkO (L v) P C i = (L v).extract (P + Z) (P + Z + C) := by unfold bkO; rw [hZ]
  rw [hb]
  have e3 : IntKind.i64.wrap ((P : Int) + (Z : Int)) = ((P + Z : Nat) : Int) := by rw [IntKind.wrap_i64]; omega
  have e4 : IntKind.i64.wrap (((P + Z : Nat) : Int) + (C : Int)) = ((P + Z + C : Nat) : Int) := by rw [IntKind.wrap_i64]; omega
  clear hA hP hi hZ h hL h1 h2 hb
  go_enter Tryz.func35, Tryz.ntmps35
  go_wp2_with fail
  refine Calls.mono HV.out ?_
  rintro e w1 ⟨rfl, rfl⟩
  go_wp2_with fail
  go_quiet (fail)
  obtain ⟨D, hD⟩ : ∃ D, P + Z = D := ⟨_, rfl⟩
  have hDi : (P : Int) + (Z : Int) = (D : Int) := by omega
  rw [hD] at e4 hfit
  rw [hDi]
  have HDD : Hid _ := hD
  clear e3 hDi hD
  obtain ⟨E, hE⟩ : ∃ E, D + C = E := ⟨_, rfl⟩
  rw [hE] at e4 hfit
  have k1 : (0 : Int) ≤ (D : Int) := by omega
  have k2 : (D : Int) ≤ (E : Int) := by omega
  have k3 : (E : Int) ≤ ((L v).size : Int) := by omega
  have HEE : Hid _ := hE
  clear hE
  go_wp2_with fail
  go_quiet (fail)
  go_wp2_with fail
  go_ret
  exact ⟨by rw [HDD.out, HEE.out]; rfl, _, by rw [World.drewN_drewN]⟩
theorem clash_any (kt : Nat → Int) (a b : ByteArray) (w : World) (hG : Gd kt w) (ha : a.size ≤ 1000000) (hb : b.size ≤ 1000000) :
    Calls Tryz.prog 34 #[.string a, .string b] w fun e w' => e = .returned (.bool (decide (a ≠ b ∧ leafT (ofT kt) a = leafT (ofT kt) b))) ∧ Below w.heap.size w w' := by
  have HD : Hid (∀ (t : ByteArray) (W : World), t.size ≤ 1000000 → Below w.heap.size w W → Calls Tryz.prog 79 #[.string (⟨#[0]⟩ ++ t)] W fun e w' => e = .returned (.string (leafT (ofT kt) t)) ∧ Below W.heap.size W w') := fun t W ht hW => by
    have e1 : (⟨#[0]⟩ : ByteArray).size = 1 := rfl
    have h2 : ((⟨#[0]⟩ : ByteArray) ++ t).size ≤ 140737488351232 := by rw [ByteArray.size_append, e1]; omega
    have h3 := vdigest_any kt (⟨#[0]⟩ ++ t) W h2 (hG.below hW).tab (hG.below hW).one
    unfold leafT
    exact h3
  obtain ⟨D, hD⟩ : ∃ D, leafT (ofT kt) = D := ⟨_, rfl⟩
  rw [hD] at HD ⊢
  clear hG hD
  go_enter Tryz.func34, Tryz.ntmps34
  go_wp2_with fail
  refine Calls.mono (HD.out a w ha (Below.refl _ _)) ?_
  rintro e w1 ⟨rfl, hb1⟩
  have HB1 : Hid _ := hb1
  clear hb1
  go_wp2_with fail
  refine Calls.mono (HD.out b w1 hb HB1.out) ?_
  rintro e w2 ⟨rfl, hb2⟩
  have HB2 : Hid (Below w.heap.size w w2) := HB1.out.trans (hb2.mono HB1.out.size)
  clear hb2 HD
  by_cases hab : a = b
  · have q1 : (a.toList == b.toList) = true := texts_eq hab
    have hd : decide (a ≠ b ∧ D a = D b) = false := decide_eq_false (fun h => h.1 hab)
    have HH : Hid _ := hd
    clear hab hd
    go_wp2_with fail
    go_ret
    exact ⟨by rw [HH.out]; rfl, HB2.out⟩
  · have q1 : (a.toList == b.toList) = false := texts_ne hab
    by_cases hl : D a = D b
    · have q2 : ((D a).toList == (D b).toList) = true := texts_eq hl
      have hd : decide (a ≠ b ∧ D a = D b) = true := decide_eq_true ⟨hab, hl⟩
      have HH : Hid _ := hd
      clear hab hd hl
      go_wp2_with fail
      go_ret
      exact ⟨by rw [HH.out]; rfl, HB2.out⟩
    · have q2 : ((D a).toList == (D b).toList) = false := texts_ne hl
      have hd : decide (a ≠ b ∧ D a = D b) = false := decide_eq_false (fun h => hl h.2)
      have HH : Hid _ := hd
      clear hab hd hl
      go_wp2_with fail
      go_ret
      exact ⟨by rw [HH.out]; rfl, HB2.out⟩
end Go.Proofs.YtadinjaocnlglaaGreatDoor
namespace Go.Proofs.YtadinjaocnlglaaGreatDoor
open Go.RowKit
set_option maxRecDepth 100000
set_option maxHeartbeats 4000000
/-- a number behind a list that a struct holds -/
theorem fld_app {w : World} {B r k : Nat} {ty : TypeId} {cs : Array Value} {v : Value} {xs : List Nat} (x : Nat) (hr : w.heap[r]? = some (.cells cs ty (0, 0))) (hty : ty ≠ 3) (ho : w.ownsRow B 3 1 v xs.length (unV xs)) (hB : B ≤ w.heap.size) (hx : xs.length ≤ 1000000) :
    ∃ v' w2, (Builtin.append_ #[39, 39] 39 #[v, .slice (some ⟨w.heap.size, 0, none⟩) 1 1]).run Tryz.prog (w.alloc (.cells #[.int .i64 x] 3)) = .ok v' w2 ∧ (w2.setCell ⟨r, k, none⟩ v').ownsRow B 3 1 v' (xs ++ [x]).length (unV (xs ++ [x])) ∧ w2.heap[r]? = some (.cells cs ty (0, 0)) ∧ (w2.setCell ⟨r, k, none⟩ v').heap[r]? = some (.cells (cs.setIfInBounds k v') ty (0, 0))
      ∧ (∀ j, j < w.heap.size → j ≠ r → v.ownBlock ≠ some j → (w2.setCell ⟨r, k, none⟩ v').heap[j]? = w.heap[j]?) ∧ (v'.ownBlock = v.ownBlock ∨ v'.ownBlock = some (w.heap.size + 1)) ∧ (B ≤ r → ∀ w0, Below B w0 w → Below B w0 (w2.setCell ⟨r, k, none⟩ v')) := by
  obtain ⟨i0, hi0, z0, z1, z2⟩ := info_parts info3
  have hrl : r < w.heap.size := (Array.getElem?_eq_some_iff.1 hr).1
  have hva : (w.alloc (.cells #[.int .i64 x] 3)).ownsRow B 3 1 v xs.length (unV xs) := ho.alloc _
  have hra : (w.alloc (.cells #[.int .i64 x] 3)).heap[r]? = some (.cells cs ty (0, 0)) := by rw [heap_alloc_old _ _ hrl]; exact hr
  have hsz : (w.alloc (.cells #[.int .i64 x] 3)).heap.size = w.heap.size + 1 := by simp
  obtain ⟨v', w2, hrun, ho2, hg, hb⟩ := app_rows 39 Tryz.underlying39 hi0 z0 z1 z2 rfl (by decide) hva (own_one w x) (by intro u hu; simp at hu; subst hu; rfl) (by omega) (by omega) (by omega)
  have hne : v.ownBlock ≠ some r := fun e => by
    obtain ⟨cur, hcur⟩ := own_type ho r e
    rw [hr] at hcur
    simp only [Option.some.injEq, Obj.cells.injEq] at hcur
    exact hty hcur.2.1
  have hr2 : w2.heap[r]? = some (.cells cs ty (0, 0)) := by
    rw [hg.block r (by omega) (fun e => hne e.symm)]; exact hra
  have hne' : v'.ownBlock ≠ some r := fun e => by
    rcases hb with h | h
    · exact hne (h.symm.trans e)
    · rw [h] at e; have := Option.some.inj e; omega
  refine ⟨v', w2, hrun, ?_, hr2, set_heap _ _ _ _ _ _ _ hr2, fun j hj h1 h2 => ?_, by rw [hsz] at hb; exact hb, fun hBr w0 hw0 => ?_⟩
  · have e1 : (xs ++ [x]).length = xs.length + 1 := by simp
    have e2 : unV (xs ++ [x]) = unV xs ++ [.int .i64 (x : Nat)] := by simp [unV]
    rw [e1, e2]
    exact own_kept ho2 (fun y hy => set_other _ _ _ _ _ (fun e => hne' (by rw [← e]; exact hy)))
  · rw [set_other _ _ _ _ _ h1, hg.block j (by omega) (fun e => h2 e.symm), heap_alloc_old _ _ hj]
  · have h1 : Below B w0 (w.alloc (.cells #[.int .i64 x] 3)) := hw0.alloc hB _
    exact (h1.grown hg (by omega) (fun y hy => own_ge ho y hy)).setCell (p := ⟨r, k, none⟩) hBr _
/-- a row of a Plan in the making -/
def plC (K M C V ns nb : Nat) (fv pv : Value) : Array Value := #[.int .i64 K, .int .i64 M, .int .i64 C, .int .i64 V, .int .i64 ns, .int .i64 nb, fv, pv]
structure PI (w0 : World) (pb x K M C V ns nb : Nat) (fv : Value) (l1 : List Nat) (pv : Value) (l2 : List Nat) (w : World) : Prop where
  bx : w.heap[pb]? = some (.cells #[.int .i64 K, .int .i64 M, .int .i64 C, .int .i64 V] 23 (0, 0))
  row : w.heap[x]? = some (.cells (plC K M C V ns nb fv pv) 84 (0, 0))
  o1 : w.ownsRow w0.heap.size 3 1 fv l1.length (unV l1)
  o2 : w.ownsRow w0.heap.size 3 1 pv l2.length (unV l2)
  ap : ∀ j, fv.ownBlock = some j → pv.ownBlock ≠ some j
  bel : Below w0.heap.size w0 w
  lo : w0.heap.size ≤ x
theorem PI.fst {w0 : World} {pb x K M C V ns nb : Nat} {fv : Value} {l1 : List Nat} {pv : Value} {l2 : List Nat} {w : World} (h : PI w0 pb x K M C V ns nb fv l1 pv l2 w) (y : Nat) (hl : l1.length ≤ 1000) :
    ∃ v' w2, (Builtin.append_ #[39, 39] 39 #[fv, .slice (some ⟨w.heap.size, 0, none⟩) 1 1]).run Tryz.prog (w.alloc (.cells #[.int .i64 y] 3)) = .ok v' w2 ∧ PI w0 pb x K M C V ns nb v' (l1 ++ [y]) pv l2 (w2.setCell ⟨x, 6, none⟩ v') ∧ w2.heap[x]? = some (.cells (plC K M C V ns nb fv pv) 84 (0, 0)) := by
  obtain ⟨v', w2, hrun, ho, hr, hr2, hk, hb, hbel⟩ := fld_app (k := 6) y h.row (by decide) h.o1 h.bel.size (by omega)
  refine ⟨v', w2, hrun, ⟨?_, hr2, ho, ?_, ?_, hbel h.lo _ h.bel, h.lo⟩, hr⟩
  · rw [hk pb (Array.getElem?_eq_some_iff.1 h.bx).1 (row_ne h.bx h.row (by decide)) (fun e => by
      obtain ⟨cur, hcur⟩ := own_type h.o1 pb e
      exact row_ne h.bx hcur (by decide) rfl)]
    exact h.bx
  · refine own_kept h.o2 (fun j hj => hk j (own_lt h.o2 j hj) (fun e => ?_) (fun e => h.ap j e hj))
    obtain ⟨cur, hcur⟩ := own_type h.o2 j hj
    exact row_ne hcur h.row (by decide) e
  · intro j h1 h2
    rcases hb with e | e
    · exact h.ap j (e.symm.trans h1) h2
    · have := own_lt h.o2 j h2
      rw [e] at h1
      have := Option.some.inj h1
      omega
theorem PI.plc {w0 : World} {pb x K M C V ns nb : Nat} {fv : Value} {l1 : List Nat} {pv : Value} {l2 : List Nat} {w : World} (h : PI w0 pb x K M C V ns nb fv l1 pv l2 w) (y : Nat) (hl : l2.length ≤ 1000) :
    ∃ v' w2, (Builtin.append_ #[39, 39] 39 #[pv, .slice (some ⟨w.heap.size, 0, none⟩) 1 1]).run Tryz.prog (w.alloc (.cells #[.int .i64 y] 3)) = .ok v' w2 ∧ PI w0 pb x K M C V ns nb fv l1 v' (l2 ++ [y]) (w2.setCell ⟨x, 7, none⟩ v') ∧ w2.heap[x]? = some (.cells (plC K M C V ns nb fv pv) 84 (0, 0)) := by
  obtain ⟨v', w2, hrun, ho, hr, hr2, hk, hb, hbel⟩ := fld_app (k := 7) y h.row (by decide) h.o2 h.bel.size (by omega)
  refine ⟨v', w2, hrun, ⟨?_, hr2, ?_, ho, ?_, hbel h.lo _ h.bel, h.lo⟩, hr⟩
  · rw [hk pb (Array.getElem?_eq_some_iff.1 h.bx).1 (row_ne h.bx h.row (by decide)) (fun e => by
      obtain ⟨cur, hcur⟩ := own_type h.o2 pb e
      exact row_ne h.bx hcur (by decide) rfl)]
    exact h.bx
  · refine own_kept h.o1 (fun j hj => hk j (own_lt h.o1 j hj) (fun e => ?_) (fun e => h.ap j hj e))
    obtain ⟨cur, hcur⟩ := own_type h.o1 j hj
    exact row_ne hcur h.row (by decide) e
  · intro j h1 h2
    rcases hb with e | e
    · exact h.ap j h1 (e.symm.trans h2)
    · have := own_lt h.o1 j h1
      rw [e] at h2
      have := Option.some.inj h2
      omega
theorem unV_cells {w : World} {B : Nat} {a : Option Addr} {n c : Nat} {l : List Nat} (h : w.ownsRow B 3 1 (.slice a n c) n (unV l)) (hn : 0 < n) : ∃ g, a = some ⟨g, 0, none⟩ ∧ B ≤ g ∧ ∀ i (hi : i < l.length), w.cell? ⟨g, i, none⟩ = some (.int .i64 (l[i] : Nat)) := by
  rcases h.2 with ⟨_, h2⟩ | ⟨g, cap, cur, hv, hB, hh, _⟩
  · omega
  · cases hv
    refine ⟨g, rfl, hB, fun i hi => ?_⟩
    have := h.cells (g := g) rfl i _ (show (unV l)[i]? = some (.int .i64 (l[i] : Nat)) by simp [unV, hi])
    rw [Addr.add_lit, Nat.zero_add] at this
    exact this
end Go.Proofs.YtadinjaocnlglaaGreatDoor
