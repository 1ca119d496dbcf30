/-
  The walk of Stock.begin.
  A row copied into the midst of another; as one step of a region that draws.
  The walk of Stock.add where a volume was read before.
-/
import Derived.Test.YtadinjaocnlglaaGreatDoorZ24
import Derived.Laws.CopyRow
namespace Go.Proofs.YtadinjaocnlglaaGreatDoor
open Go.RowKit
set_option maxRecDepth 100000
set_option maxHeartbeats 4000000
theorem info4 : (Tryz.prog.info? 4).map (fun i => (i.zero, i.size, i.bytes)) = some (some (.bool false), 1, 1) := by kernel_rfl
theorem info232 : (Tryz.prog.info? 232).map (fun i => (i.zero, i.size, i.bytes)) = some (some (.pointer none), 1, 8) := by kernel_rfl
/-- a Stock's cells -/
def stC (vh un rd bl fi : Value) : Array Value := #[vh, un, rd, bl, fi]
def boF : Nat → Value := fun _ => .bool false
def teF : Nat → Value := fun _ => .string ⟨#[]⟩
def piF : Nat → Value := fun _ => .pointer none
theorem sbegin (k g B K M C V num first : Nat) (aE : Option Addr) (kE : Nat) (es : List (ByteArray × Nat)) (root lst lv : ByteArray) (vB un : Value) (w : World)
    (hk : w.heap[k]? = some (.cells (stC (.pointer none) un (.slice none 0 0) (.slice none 0 0) (.slice none 0 0)) 224 (0, 0)))
    (hg : w.heap[g]? = some (.cells (volC root lst K M C V (.slice aE es.length kE) lv num first vB) 319 (0, 0))) (ho : w.ownsRow B 70 2 (.slice aE es.length kE) es.length (enV es)) (hl : es.length ≤ 16) (hsum : lenE es ≤ 4096)
    (hK : 1 ≤ K) (hKM : K + M ≤ 255) (hC : 1 ≤ C) (hC2 : C ≤ 64) (hV2 : V ≤ 16) (cn ns : Nat) (hcn : nst (K * C) (lenE es) * (K + M) = cn) (hcn2 : cn ≤ 512) (hns : nst (K * C) (lenE es) = ns) :
    Calls Tryz.prog 206 #[.pointer (some ⟨k, 0, none⟩), .pointer (some ⟨g, 0, none⟩)] w fun e w' => e = .returned (.tuple #[]) ∧ ∃ p q f, w.heap.size ≤ p ∧ w.heap.size ≤ q ∧ w.heap.size ≤ f ∧
      w'.heap[k]? = some (.cells (stC (.pointer (some ⟨g, 0, none⟩)) un (.slice (some ⟨p, 0, none⟩) V V) (.slice (some ⟨q, 0, none⟩) cn cn) (.slice (some ⟨f, 0, none⟩) ns ns)) 224 (0, 0)) ∧ Rw w' p V 4 boF ∧ Rw w' q cn 9 teF ∧ Rw w' f ns 232 piF ∧ Fr (fun j => j = k) w w' := by
  have hgl : g < w.heap.size := (Array.getElem?_eq_some_iff.1 hg).1
  have hkl : k < w.heap.size := (Array.getElem?_eq_some_iff.1 hk).1
  have hgk : g ≠ k := fun e => by have h1 := hg; rw [e, hk] at h1; simp at h1
  have hns2 : ns ≤ 4096 := by rw [← hns]; exact Nat.le_trans (nst_len _ _ (Nat.mul_pos hK hC)) hsum
  have hm1 := run_make_row' (P := Tryz.prog) 94 4 (.bool false) 1 Tryz.underlying94 info4 rfl .i64 .i64 V (by omega) (by omega)
  have hm2 := run_make_row' (P := Tryz.prog) 42 9 (.string ⟨#[]⟩) 16 Tryz.underlying42 info9 rfl .i64 .i64 cn (by omega) (by omega)
  have hm3 := run_make_row' (P := Tryz.prog) 222 232 (.pointer none) 8 Tryz.underlying222 info232 rfl .i64 .i64 ns (by omega) (by omega)
  have HGO : Hid (∀ X : World, Fr (fun j => j = k) w X → X.heap[g]? = some (.cells (volC root lst K M C V (.slice aE es.length kE) lv num first vB) 319 (0, 0)) ∧ X.ownsRow B 70 2 (.slice aE es.length kE) es.length (enV es)) := fun X hX => ⟨by rw [hX.old g hgl hgk]; exact hg, own_kept ho (fun q hq => hX.old q (own_lt ho q hq) (fun e => by
    obtain ⟨cur, hc⟩ := own_type ho q hq
    have h2 := hk
    rw [← e, hc] at h2; simp at h2))⟩
  have H1 : Hid (∀ X : World, Fr (fun j => j = k) w X → Calls Tryz.prog 252 #[.pointer (some ⟨g, 0, none⟩)] X fun e w' => e = .returned (.int .i64 cn) ∧ Below X.heap.size X w') := fun X hX => by
    obtain ⟨hx, hox⟩ := HGO.out X hX
    rw [← hcn]
    exact hcount g B es.length kE K M C V aE es X (cell_of_row _ _ _ _ 319 _ hx) (cell_of_row _ _ _ _ 319 _ hx) (cell_of_row _ _ _ _ 319 _ hx) (cell_of_row _ _ _ _ 319 _ hx) (cell_of_row _ _ _ _ 319 _ hx) rfl hox (fun i => Nat.le_trans (lenE_take_le _ i) (by omega)) (by omega) hK hKM hC hC2
  have H2 : Hid (∀ X : World, Fr (fun j => j = k) w X → Calls Tryz.prog 253 #[.pointer (some ⟨g, 0, none⟩)] X fun e w' => e = .returned (.int .i64 ns) ∧ Below X.heap.size X w') := fun X hX => by
    obtain ⟨hx, hox⟩ := HGO.out X hX
    rw [← hns]
    exact hstripes g B es.length kE K M C V aE es X (cell_of_row _ _ _ _ 319 _ hx) (cell_of_row _ _ _ _ 319 _ hx) (cell_of_row _ _ _ _ 319 _ hx) (cell_of_row _ _ _ _ 319 _ hx) (cell_of_row _ _ _ _ 319 _ hx) rfl hox (fun i => Nat.le_trans (lenE_take_le _ i) (by omega)) (by omega) hK hKM hC hC2
  obtain ⟨p, hp⟩ : ∃ p, w.heap.size = p := ⟨_, rfl⟩
  have a0 : w.cell? ⟨k, 0, none⟩ = some (.pointer none) := cell_of_row _ _ _ _ 224 _ hk
  have b0 := frozen_of_row w k 0 _ 224 hk
  obtain ⟨X0, hX0⟩ : ∃ X, w.setCell ⟨k, 0, none⟩ (.pointer (some ⟨g, 0, none⟩)) = X := ⟨_, rfl⟩
  have k0 : X0.heap[k]? = some (.cells (stC (.pointer (some ⟨g, 0, none⟩)) un (.slice none 0 0) (.slice none 0 0) (.slice none 0 0)) 224 (0, 0)) := by rw [← hX0]; exact set_heap _ _ _ _ _ _ _ hk
  have f0 : Fr (fun j => j = k) w X0 := by rw [← hX0]; exact (Fr.refl (fun j => j = k) w).set (g := k) (.inl rfl) _ _
  have s0 : X0.heap.size = p := by rw [← hX0, ← hp]; simp [World.setCell]
  have v5 : X0.cell? ⟨g, 5, none⟩ = some (.int .i64 V) := cell_of_row _ _ _ _ 319 _ (HGO.out X0 f0).1
  obtain ⟨X1, hX1⟩ : ∃ X, X0.alloc (.cells (madeCells #[.bool false] V) 4) = X := ⟨_, rfl⟩
  have p1 : Rw X1 p V 4 boF := by rw [← hX1, ← s0]; exact Rw.made X0 V 4 (.bool false)
  have b1 : Below X0.heap.size X0 X1 := by rw [← hX1]; exact (Below.refl _ _).alloc (Nat.le_refl _) _
  have k1 : X1.heap[k]? = _ := (b1.block k (by rw [s0, ← hp]; exact hkl)).trans k0
  have f1 := f0.thenBelow b1
  have a2 : X1.cell? ⟨k, 2, none⟩ = some (.slice none 0 0) := cell_of_row _ _ _ _ 224 _ k1
  have b2 := frozen_of_row X1 k 2 _ 224 k1
  obtain ⟨X2, hX2⟩ : ∃ X, X1.setCell ⟨k, 2, none⟩ (.slice (some ⟨p, 0, none⟩) V V) = X := ⟨_, rfl⟩
  have k2 : X2.heap[k]? = some (.cells (stC (.pointer (some ⟨g, 0, none⟩)) un (.slice (some ⟨p, 0, none⟩) V V) (.slice none 0 0) (.slice none 0 0)) 224 (0, 0)) := by rw [← hX2]; exact set_heap _ _ _ _ _ _ _ k1
  have f2 : Fr (fun j => j = k) w X2 := by rw [← hX2]; exact f1.set (.inl rfl) _ _
  have p2 : Rw X2 p V 4 boF := by rw [← hX2]; show (World.heap _)[p]? = _; rw [set_other _ _ _ _ _ (by omega)]; exact p1
  have HK2 : Hid _ := k2
  have HF2 : Hid _ := f2
  have HP2 : Hid (Rw X2 p V 4 boF) := p2
  have HH1 : Hid _ := H1.out X2 f2
  have HPW : Hid (w.heap.size = p) := hp
  clear hk hg ho k0 f0 p1 b1 k1 f1 k2 f2 p2 hcn hns H1
  go_enter Tryz.func206, Tryz.ntmps206
  go_wp2_with fail
  refine Calls.mono HH1.out ?_
  rintro e w3 ⟨rfl, hB3⟩
  clear hX0 a0 b0 v5 hX1 a2 b2 hX2 hm1 s0 HH1
  obtain ⟨q, hq⟩ : ∃ q, w3.heap.size = q := ⟨_, rfl⟩
  have k3 : w3.heap[k]? = _ := (hB3.block k (Array.getElem?_eq_some_iff.1 HK2.out).1).trans HK2.out
  have f3 := HF2.out.thenBelow hB3
  have p3 := Rw.below HP2.out hB3 (Rw.lt HP2.out)
  obtain ⟨X3, hX3⟩ : ∃ X, w3.alloc (.cells (madeCells #[.string ⟨#[]⟩] cn) 9) = X := ⟨_, rfl⟩
  have q4 : Rw X3 q cn 9 teF := by rw [← hX3, ← hq]; exact Rw.made w3 cn 9 (.string ⟨#[]⟩)
  have b4 : Below w3.heap.size w3 X3 := by rw [← hX3]; exact (Below.refl _ _).alloc (Nat.le_refl _) _
  have k4 : X3.heap[k]? = _ := (b4.block k (Array.getElem?_eq_some_iff.1 k3).1).trans k3
  have f4 := f3.thenBelow b4
  have p4 := p3.below b4 p3.lt
  have a4 : X3.cell? ⟨k, 3, none⟩ = some (.slice none 0 0) := cell_of_row _ _ _ _ 224 _ k4
  have c4 := frozen_of_row X3 k 3 _ 224 k4
  have hkq : k ≠ q := by have h1 := (Array.getElem?_eq_some_iff.1 k3).1; omega
  have hkp : k ≠ p := by have h1 := HPW.out; omega
  obtain ⟨X4, hX4⟩ : ∃ X, X3.setCell ⟨k, 3, none⟩ (.slice (some ⟨q, 0, none⟩) cn cn) = X := ⟨_, rfl⟩
  have k5 : X4.heap[k]? = some (.cells (stC (.pointer (some ⟨g, 0, none⟩)) un (.slice (some ⟨p, 0, none⟩) V V) (.slice (some ⟨q, 0, none⟩) cn cn) (.slice none 0 0)) 224 (0, 0)) := by rw [← hX4]; exact set_heap _ _ _ _ _ _ _ k4
  have f5 : Fr (fun j => j = k) w X4 := by rw [← hX4]; exact f4.set (.inl rfl) _ _
  have p5 : Rw X4 p V 4 boF := by rw [← hX4]; exact p4.other _ _ hkp.symm
  have q5 : Rw X4 q cn 9 teF := by rw [← hX4]; exact q4.other _ _ hkq.symm
  have HH2 : Hid _ := H2.out X4 f5
  have HQW : Hid (w.heap.size ≤ q) := by rw [← hq]; exact f3.size
  have HK5 : Hid _ := k5
  have HF5 : Hid _ := f5
  have HP5 : Hid (Rw X4 p V 4 boF) := p5
  have HQ5 : Hid (Rw X4 q cn 9 teF) := q5
  clear hB3 k3 f3 p3 q4 b4 k4 f4 p4 k5 f5 p5 q5 H2 HK2 HF2 HP2
  go_wp2_with fail
  refine Calls.mono HH2.out ?_
  rintro e w6 ⟨rfl, hB6⟩
  clear a4 c4 hX3 hX4 hq hm2 HH2
  obtain ⟨f, hf⟩ : ∃ f, w6.heap.size = f := ⟨_, rfl⟩
  have k6 : w6.heap[k]? = _ := (hB6.block k (Array.getElem?_eq_some_iff.1 HK5.out).1).trans HK5.out
  have f6 := HF5.out.thenBelow hB6
  have p6 := Rw.below HP5.out hB6 (Rw.lt HP5.out)
  have q6 := Rw.below HQ5.out hB6 (Rw.lt HQ5.out)
  obtain ⟨X6, hX6⟩ : ∃ X, w6.alloc (.cells (madeCells #[.pointer none] ns) 232) = X := ⟨_, rfl⟩
  have t7 : Rw X6 f ns 232 piF := by rw [← hX6, ← hf]; exact Rw.made w6 ns 232 (.pointer none)
  have b7 : Below w6.heap.size w6 X6 := by rw [← hX6]; exact (Below.refl _ _).alloc (Nat.le_refl _) _
  have k7 : X6.heap[k]? = _ := (b7.block k (Array.getElem?_eq_some_iff.1 k6).1).trans k6
  have f7 := f6.thenBelow b7
  have p7 := p6.below b7 p6.lt
  have q7 := q6.below b7 q6.lt
  have a7 : X6.cell? ⟨k, 4, none⟩ = some (.slice none 0 0) := cell_of_row _ _ _ _ 224 _ k7
  have c7 := frozen_of_row X6 k 4 _ 224 k7
  have hkf : k ≠ f := by have h1 := (Array.getElem?_eq_some_iff.1 k6).1; omega
  obtain ⟨X7, hX7⟩ : ∃ X, X6.setCell ⟨k, 4, none⟩ (.slice (some ⟨f, 0, none⟩) ns ns) = X := ⟨_, rfl⟩
  have HE : Hid (∃ p q f, w.heap.size ≤ p ∧ w.heap.size ≤ q ∧ w.heap.size ≤ f ∧ X7.heap[k]? = some (.cells (stC (.pointer (some ⟨g, 0, none⟩)) un (.slice (some ⟨p, 0, none⟩) V V) (.slice (some ⟨q, 0, none⟩) cn cn) (.slice (some ⟨f, 0, none⟩) ns ns)) 224 (0, 0)) ∧ Rw X7 p V 4 boF ∧ Rw X7 q cn 9 teF ∧ Rw X7 f ns 232 piF ∧ Fr (fun j => j = k) w X7) := by
    rw [← hX7]
    exact ⟨p, q, f, Nat.le_of_eq HPW.out, HQW.out, by rw [← hf]; exact f6.size, set_heap _ _ _ _ _ _ _ k7, p7.other _ _ hkp.symm, q7.other _ _ hkq.symm, t7.other _ _ hkf.symm, f7.set (.inl rfl) _ _⟩
  clear hB6 k6 f6 p6 q6 t7 b7 k7 f7 p7 q7 HK5 HF5 HP5 HQ5
  go_wp2_with fail
  go_end0
  exact ⟨rfl, by first | exact HE.out | (rw [hX7]; exact HE.out)⟩
end Go.Proofs.YtadinjaocnlglaaGreatDoor
namespace Go.Proofs.YtadinjaocnlglaaGreatDoor
open Go.RowKit
set_option maxRecDepth 100000
set_option maxHeartbeats 1000000
/-- c texts laid over others from a place on -/
def laid (bl : Nat → ByteArray) (first c : Nat) (S : Nat → ByteArray) : Nat → ByteArray := fun i => if first ≤ i ∧ i < first + c then S (i - first) else bl i
theorem copy_rows (X : World) (q cn first dl d qb c d2 : Nat) (bl S : Nat → ByteArray) (ty : TypeId) (hq : Rw X q cn 9 (tX bl)) (hb : Rw X qb c 9 (tX S)) (hfit : first + c ≤ cn) (hdl : c ≤ dl) :
    ∃ X', (Builtin.copy_ #[42, 42] ty #[.slice (some ⟨q, first, none⟩) dl d, .slice (some ⟨qb, 0, none⟩) c d2]).run Tryz.prog X = .ok (.int .i64 c) X' ∧ Rw X' q cn 9 (tX (laid bl first c S)) ∧ Fr (fun j => j = q) X X' := by
  have hlen : ((rowV c (tX S)).toList).length = c := by rw [Array.length_toList, rowV_size]
  have hcell : ∀ j v, (rowV c (tX S)).toList[j]? = some v → X.cell? ((⟨qb, 0, none⟩ : Addr).add j) = some v := fun j v hv => by
    rw [Array.getElem?_toList] at hv
    have e1 : (⟨qb, 0, none⟩ : Addr).add j = ⟨qb, j, none⟩ := by simp [Addr.add]; omega
    rw [e1, cell_of_row X qb j _ 9 _ hb]
    exact hv
  have hrun := run_copy_row (P := Tryz.prog) X 42 42 ty 9 q first dl d ⟨qb, 0, none⟩ c d2 (rowV cn (tX bl)) 9 (rowV c (tX S)).toList Tryz.underlying42 (by
    have h := info9
    cases hi : Tryz.prog.info? 9 with
    | none => rw [hi] at h; cases h
    | some i => rw [hi] at h; simp at h; simp [h.2.1]) hq (by rw [hlen]; exact (Nat.min_eq_left (by omega)).symm) hcell (by rw [hlen, rowV_size]; exact hfit) (fun v hv => by
      rw [Array.mem_toList_iff, Array.mem_iff_getElem?] at hv
      obtain ⟨i, hi⟩ := hv
      by_cases h : i < c
      · rw [rowV_get c _ i h] at hi; cases hi; rfl
      · rw [rowV_none c _ i h] at hi; cases hi)
  rw [hlen] at hrun
  refine ⟨_, hrun, ?_, ?_⟩
  · show (World.heap _)[q]? = _
    rw [setRow_heap X q _ _ 9 (0, 0) hq]
    congr 2
    apply Array.ext_getElem?
    intro i
    rw [List.getElem?_toArray, List.getElem?_append, List.getElem?_append, List.length_append, List.length_take, Array.length_toList, rowV_size, hlen, Nat.min_eq_left (by omega)]
    by_cases hi : i < cn
    · rw [rowV_get cn _ i hi]
      by_cases h1 : i < first
      · rw [if_pos (by omega), if_pos h1, List.getElem?_take_of_lt h1, Array.getElem?_toList, rowV_get cn _ i hi]
        simp only [tX, laid]
        rw [if_neg (by omega)]
      · by_cases h2 : i < first + c
        · rw [if_pos h2, if_neg h1, Array.getElem?_toList, rowV_get c _ _ (by omega)]
          simp only [tX, laid]
          rw [if_pos (by omega)]
        · rw [if_neg h2, List.getElem?_drop, Array.getElem?_toList, show first + c + (i - (first + c)) = i by omega, rowV_get cn _ i hi]
          simp only [tX, laid]
          rw [if_neg (by omega)]
    · rw [rowV_none cn _ i hi, if_neg (by omega), List.getElem?_drop, Array.getElem?_toList, rowV_none cn _ _ (by omega)]
  · exact ⟨by simp [World.setRow], fun j _ hj => setRow_other X q j _ hj, ⟨rfl, rfl, rfl⟩⟩
/-- the texts of a row from a place on -/
def tailT (q cn first : Nat) : Value := .slice (some (if cn = first then ⟨q, 0, none⟩ else ⟨q, first, none⟩)) (cn - first) (cn - first)
theorem size9 (W : World) : (sizeOf 9).run Tryz.prog W = .ok 1 W := by
  have h := info9
  cases hi : Tryz.prog.info? 9 with
  | none => rw [hi] at h; cases h
  | some i => rw [hi] at h; simp at h; simp [sizeOf, typeInfo, hi, h.2.1]
theorem tail_run (W : World) (q cn first : Nat) (hf : first ≤ cn) : (Instr.slice 42 (.slice (some ⟨q, 0, none⟩) cn cn) (some (.int .i64 first)) none none).run Tryz.prog W = .ok (tailT q cn first) W := by
  have hel : Tryz.prog.elem 42 = 9 := by simp [Program.elem, Tryz.underlying42]
  rw [run_slice_l W 42 _ _ _ (by rw [hel]; exact Tryz.underlying42) .i64 _ (by omega) (by omega), hel, size9]
  unfold tailT
  rcases Nat.lt_or_ge first cn with hlt | hge
  · rw [if_neg (by omega)]
    cases first with
    | zero => simp [Result.andThen, sliced, Addr.add]
    | succ m => simp [Result.andThen, sliced, Addr.add]; omega
  · have e : cn = first := by omega
    subst e
    simp [Result.andThen, sliced]
theorem copy_tail (X : World) (q cn first qb c d2 : Nat) (bl S : Nat → ByteArray) (ty : TypeId) (hq : Rw X q cn 9 (tX bl)) (hb : Rw X qb c 9 (tX S)) (hfit : first + c ≤ cn) :
    ∃ X', (Builtin.copy_ #[42, 42] ty #[tailT q cn first, .slice (some ⟨qb, 0, none⟩) c d2]).run Tryz.prog X = .ok (.int .i64 c) X' ∧ Rw X' q cn 9 (tX (laid bl first c S)) ∧ Fr (fun j => j = q) X X' := by
  unfold tailT
  by_cases e : cn = first
  · obtain ⟨X', h1, h2, h3⟩ := copy_rows X q cn 0 (cn - first) (cn - first) qb c d2 bl S ty hq hb (by omega) (by omega)
    rw [if_pos e]
    refine ⟨X', h1, h2.to (fun j _ => ?_), h3⟩
    unfold tX laid
    rw [if_neg (by omega), if_neg (by omega)]
  · rw [if_neg e]
    exact copy_rows X q cn first (cn - first) (cn - first) qb c d2 bl S ty hq hb hfit (by omega)
theorem step_copy {ops : Array Oper} {o : Oper} {a : Act} {w : World} {K : Act → World → Prop} {Q : Exit → Act → World → Prop} {E : Prop} (hg : o.guard = none) (x y : Operand) (t : TypeId) (hop : o.op = .call { callee := .builtin .copy, args := #[x, y], argTypes := #[t, t] })
    (u v r : Value) (hu : a.eval x = u) (hv : a.eval y = v) (w' : World) (hr : (Builtin.copy_ #[t, t] o.type #[u, v]).run Tryz.prog w = .ok r w') (hK : K (a.put o.dst r) w') : if Region.wanted o (yielded ops a.tmps) = true then Oper.wp Tryz.prog o a w K Q else E := by
  rw [if_pos (show Region.wanted o (yielded ops a.tmps) = true by simp [Region.wanted, hg])]
  unfold Oper.wp
  simp [execOp, hop, resolve, invoke, builtin, hu, hv, hr, Result.andThen]
  exact hK
end Go.Proofs.YtadinjaocnlglaaGreatDoor
namespace Go.Proofs.YtadinjaocnlglaaGreatDoor
open Go.RowKit
set_option maxRecDepth 100000
set_option maxHeartbeats 4000000
def LT.ns (l : LT) : Nat := nst (l.K * l.C) (lenE l.es)
def boR (rd : Nat → Bool) : Nat → Value := fun i => .bool (rd i)
def Head2 (B g : Nat) (T : TT) (w : World) : Prop := ∃ aE kE num first vB, w.heap[g]? = some (.cells (volC T.root T.lst T.L.K T.L.M T.L.C T.L.V (.slice aE T.L.es.length kE) T.lv num first vB) 319 (0, 0)) ∧ w.ownsRow B 70 2 (.slice aE T.L.es.length kE) T.L.es.length (enV T.L.es)
/-- a Stock that has a head -/
structure SS (B k g p q f : Nat) (T : TT) (un : Value) (rd : Nat → Bool) (bl : Nat → ByteArray) (w : World) : Prop where
  row : w.heap[k]? = some (.cells (stC (.pointer (some ⟨g, 0, none⟩)) un (.slice (some ⟨p, 0, none⟩) T.L.V T.L.V) (.slice (some ⟨q, 0, none⟩) T.L.cnt T.L.cnt) (.slice (some ⟨f, 0, none⟩) T.L.ns T.L.ns)) 224 (0, 0))
  hd : Head2 B g T w
  rdR : Rw w p T.L.V 4 (boR rd)
  blR : Rw w q T.L.cnt 9 (tX bl)
  fiR : Rw w f T.L.ns 232 piF
def ErrD (a b : Int) (e : Ending) (w : World) : Prop := ∃ z, e = .returned (.iface 305 (.pointer (some ⟨z, 0, none⟩))) ∧ w.heap[z]? = some (.cells #[.int .i64 a, .int .i64 b, .nilIface] 307 (0, 0))
theorem sadd1 (B k g p q f g2 qb c num first pl : Nat) (T T2 : TT) (un vE2 : Value) (rd : Nat → Bool) (bl S : Nat → ByteArray) (w : World) (h : SS B k g p q f T un rd bl w)
    (h2 : w.heap[g2]? = some (.cells (volC T2.root T2.lst T2.L.K T2.L.M T2.L.C T2.L.V vE2 T2.lv num first (.slice (some ⟨qb, 0, none⟩) c c)) 319 (0, 0))) (hS : Rw w qb c 9 (tX S))
    (hs1 : T.root = T2.root ∧ T.lst = T2.lst ∧ T.lv = T2.lv → num < T.L.V ∧ first + c ≤ T.L.cnt) :
    Calls Tryz.prog 158 #[.pointer (some ⟨k, 0, none⟩), .int .i64 pl, .pointer (some ⟨g2, 0, none⟩)] w fun e w' =>
      (¬ (T.root = T2.root ∧ T.lst = T2.lst ∧ T.lv = T2.lv) ∧ ErrD 12 pl e w' ∧ Below w.heap.size w w') ∨
      ((T.root = T2.root ∧ T.lst = T2.lst ∧ T.lv = T2.lv) ∧ rd num = true ∧ ErrD 13 pl e w' ∧ Below w.heap.size w w') ∨
      ((T.root = T2.root ∧ T.lst = T2.lst ∧ T.lv = T2.lv) ∧ rd num = false ∧ e = .returned .nilIface ∧ SS B k g p q f T un (updB rd num true) (laid bl first c S) w' ∧ Fr (fun j => j = p ∨ j = q) w w') := by
  have hkl : k < w.heap.size := (Array.getElem?_eq_some_iff.1 h.row).1
  have hg2l : g2 < w.heap.size := (Array.getElem?_eq_some_iff.1 h2).1
  obtain ⟨aE, kE, num0, first0, vB0, hgr, hgo⟩ := h.hd
  have hgl : g < w.heap.size := (Array.getElem?_eq_some_iff.1 hgr).1
  have a0 : w.cell? ⟨k, 0, none⟩ = some (.pointer (some ⟨g, 0, none⟩)) := cell_of_row _ _ _ _ 224 _ h.row
  have HSM : Hid (∀ X : World, Below w.heap.size w X → Calls Tryz.prog 207 #[.pointer (some ⟨g, 0, none⟩), .pointer (some ⟨g2, 0, none⟩)] X fun e w' => e = .returned (.bool (decide (T.root = T2.root ∧ T.lst = T2.lst ∧ T.lv = T2.lv))) ∧ Below X.heap.size X w') := fun X hX => by
    have e1 := (hX.block g hgl).trans hgr
    have e2 := (hX.block g2 hg2l).trans h2
    exact hsame g g2 T.root T.lst T.lv T2.root T2.lst T2.lv X (cell_of_row _ _ _ _ 319 _ e1) (cell_of_row _ _ _ _ 319 _ e1) (cell_of_row _ _ _ _ 319 _ e1) (cell_of_row _ _ _ _ 319 _ e2) (cell_of_row _ _ _ _ 319 _ e2) (cell_of_row _ _ _ _ 319 _ e2)
  have HK : Hid (∀ X : World, Below w.heap.size w X → X.cell? ⟨k, 0, none⟩ = some (.pointer (some ⟨g, 0, none⟩))) := fun X hX => (hX.cell (p := ⟨k, 0, none⟩) hkl).trans a0
  obtain ⟨sm, hsm⟩ : ∃ x, decide (T.root = T2.root ∧ T.lst = T2.lst ∧ T.lv = T2.lv) = x := ⟨_, rfl⟩
  rw [hsm] at HSM
  have H : Hid _ := h
  have H2 : Hid _ := h2
  have HS : Hid (Rw w qb c 9 (tX S)) := hS
  have HSA : Hid _ := hs1
  have HSMD : Hid _ := hsm
  clear h h2 hS hgr hgo hs1 hsm
  go_enter Tryz.func158, Tryz.ntmps158
  go_wp2_with fail
  go_region_held3 (fun w2 => w2.cell? ⟨k, 0, none⟩ = some (.pointer (some ⟨g, 0, none⟩))) (go_keep) ((go_at_call 207; refine Calls.mono (HSM.out _ (by first | exact Below.refl _ _ | exact (Below.refl _ _).drew)) ?_; rintro e w1 ⟨rfl, hb1⟩; have hB1 : Below w.heap.size w w1 := (by first | exact hb1 | exact ((Below.refl _ _).drew).trans hb1); have q0 := HK.out w1 hB1))
  have HB1 : Hid _ := hB1
  clear hb1 hB1 q0 a0
  cases hsv : sm with
  | false =>
    go_wp2_with fail
    refine Calls.mono (at_err 12 _ w1) ?_
    rintro e w2 ⟨z, rfl, hz, hB⟩
    have HZ : Hid _ := hz
    have HB2 : Hid _ := hB
    clear hz hB
    go_wp2_with fail
    go_ret
    exact .inl ⟨of_decide_eq_false (HSMD.out.trans hsv), ⟨z, rfl, HZ.out⟩, HB1.out.trans (HB2.out.mono HB1.out.size)⟩
  | true =>
    have hyes : T.root = T2.root ∧ T.lst = T2.lst ∧ T.lv = T2.lv := of_decide_eq_true (HSMD.out.trans hsv)
    have HYES : Hid (T.root = T2.root ∧ T.lst = T2.lst ∧ T.lv = T2.lv) := hyes
    clear hyes
    obtain ⟨hnV, hfit⟩ := HSA.out HYES.out
    have hk1 := (HB1.out.block k hkl).trans H.out.row
    have hg1 := (HB1.out.block g2 hg2l).trans H2.out
    have hp1 : Rw w1 p T.L.V 4 (boR rd) := Rw.below H.out.rdR HB1.out (Rw.lt H.out.rdR)
    have k2 : w1.cell? ⟨k, 2, none⟩ = some (.slice (some ⟨p, 0, none⟩) T.L.V T.L.V) := cell_of_row _ _ _ _ 224 _ hk1
    have n8 : w1.cell? ⟨g2, 8, none⟩ = some (.int .i64 num) := cell_of_row _ _ _ _ 319 _ hg1
    have p8 : w1.cell? ⟨p, num, none⟩ = some (.bool (rd num)) := hp1.cell num hnV
    have hkp : k ≠ p := fun e => by have e1 := hk1; rw [e] at e1; rw [show w1.heap[p]? = _ from hp1] at e1; simp at e1
    have hgp : g2 ≠ p := fun e => by have e1 := hg1; rw [e] at e1; rw [show w1.heap[p]? = _ from hp1] at e1; simp at e1
    have HK1 : Hid _ := hk1
    have HG1 : Hid _ := hg1
    have HP1 : Hid (Rw w1 p T.L.V 4 (boR rd)) := hp1
    obtain ⟨rv, hrv⟩ : ∃ x, rd num = x := ⟨_, rfl⟩
    rw [hrv] at p8
    have HRV : Hid _ := hrv
    clear hk1 hg1 hp1 hrv
    cases rv with
    | true =>
      go_wp2_with fail
      go_quiet (fail)
      go_wp2_with fail
      refine Calls.mono (at_err 13 _ _) ?_
      rintro e w2 ⟨z, rfl, hz, hB⟩
      have HZ : Hid _ := hz
      have HB2 : Hid (Below w.heap.size w w2) := (below_drewN HB1.out _).trans (hB.mono (below_drewN HB1.out _).size)
      clear hz hB
      go_wp2_with fail
      go_ret
      exact .inr (.inl ⟨HYES.out, HRV.out, ⟨z, rfl, HZ.out⟩, HB2.out⟩)
    | false =>
      go_wp2_with fail
      go_quiet (fail)
      obtain ⟨W2, hW2⟩ : ∃ X, w1.drewN nq = X := ⟨_, rfl⟩
      rw [hW2]
      have HBW : Hid (Below w.heap.size w W2) := by show Below _ _ _; rw [← hW2]; exact below_drewN HB1.out _
      replace k2 : W2.cell? ⟨k, 2, none⟩ = some (.slice (some ⟨p, 0, none⟩) T.L.V T.L.V) := by rw [← hW2]; exact k2
      replace n8 : W2.cell? ⟨g2, 8, none⟩ = some (.int .i64 num) := by rw [← hW2]; exact n8
      replace p8 : W2.cell? ⟨p, num, none⟩ = some (.bool false) := by rw [← hW2]; exact p8
      have z8 : W2.frozen? ⟨p, num, none⟩ = false := by rw [← hW2]; exact HP1.out.free num
      clear hW2
      go_wp2_with fail
      go_region
      clear k2 n8 p8 z8
      obtain ⟨X3, hX3⟩ : ∃ X, (W2.setCell ⟨p, num, none⟩ (.bool true)).drew = X := ⟨_, rfl⟩
      rw [hX3]
      have HF3 : Hid (Fr (fun j => j = p ∨ j = q) w X3) := by
        show Fr _ _ _
        rw [← hX3]
        exact (((Fr.below HBW.out).mono (fun j _ e => e)).set (S := fun j => j = p ∨ j = q) (g := p) (.inl (.inl rfl)) _ _).drew
      have HP3 : Hid (Rw X3 p T.L.V 4 (boR (updB rd num true))) := by
        show Rw _ _ _ _ _
        rw [← hX3]
        exact ((Rw.put (Rw.below H.out.rdR HBW.out (Rw.lt H.out.rdR)) num (.bool true)).to (fun j _ => by unfold updV boR updB; split <;> rfl)).drew
      have HO3 : Hid (∀ j, j < w.heap.size → j ≠ p → X3.heap[j]? = w.heap[j]?) := fun j hj hjp => by
        rw [← hX3]
        exact (set_other W2 p num j (.bool true) hjp).trans (HBW.out.block j hj)
      clear hX3
      have hk3 := (HO3.out k hkl hkp).trans H.out.row
      have hg3 := (HO3.out g2 hg2l hgp).trans H2.out
      have hqp : q ≠ p := fun e => by have e1 := H.out.blR; unfold Rw at e1; rw [e, show w.heap[p]? = _ from H.out.rdR] at e1; simp at e1
      have hqbp : qb ≠ p := fun e => by have e1 := HS.out; unfold Rw at e1; rw [e, show w.heap[p]? = _ from H.out.rdR] at e1; simp at e1
      have hq3 : Rw X3 q T.L.cnt 9 (tX bl) := (HO3.out q (Rw.lt H.out.blR) hqp).trans H.out.blR
      have hqb3 : Rw X3 qb c 9 (tX S) := (HO3.out qb (Rw.lt HS.out) hqbp).trans HS.out
      have k3 : X3.cell? ⟨k, 3, none⟩ = some (.slice (some ⟨q, 0, none⟩) T.L.cnt T.L.cnt) := cell_of_row _ _ _ _ 224 _ hk3
      have n9 : X3.cell? ⟨g2, 9, none⟩ = some (.int .i64 first) := cell_of_row _ _ _ _ 319 _ hg3
      have n10 : X3.cell? ⟨g2, 10, none⟩ = some (.slice (some ⟨qb, 0, none⟩) c c) := cell_of_row _ _ _ _ 319 _ hg3
      have HQ3 : Hid (Rw X3 q T.L.cnt 9 (tX bl)) := hq3
      have HQB3 : Hid (Rw X3 qb c 9 (tX S)) := hqb3
      clear hk3 hg3 hq3 hqb3
      obtain ⟨X4, hrun, hq4, hf4⟩ := copy_tail X3.drew q T.L.cnt first qb c c bl S 3 HQ3.out.drew HQB3.out.drew hfit
      have HRUN : Hid _ := hrun
      have HQ4 : Hid (Rw X4 q T.L.cnt 9 (tX (laid bl first c S))) := hq4
      have HF4 : Hid (Fr (fun j => j = q) X3 X4) := (Fr.refl _ X3).drew.trans' hf4
      clear hrun hq4 hf4
      have hT : ∀ j, j < w.heap.size → j ≠ p → j ≠ q → X4.heap[j]? = w.heap[j]? := fun j hj h1 h2 => (HF4.out.old j (Nat.lt_of_lt_of_le hj HF3.out.size) h2).trans (HO3.out j hj h1)
      have HEND : Hid (SS B k g p q f T un (updB rd num true) (laid bl first c S) X4 ∧ Fr (fun j => j = p ∨ j = q) w X4) := by
        obtain ⟨aE, kE, num0, first0, vB0, hgr, hgo⟩ := H.out.hd
        have t1 : ∀ {j : Nat} {cs : Array Value} {t : TypeId}, w.heap[j]? = some (.cells cs t (0, 0)) → t ≠ 4 → j ≠ p := fun {j cs t} hj ht e => by
          have e1 : w.heap[p]? = _ := H.out.rdR
          rw [e, e1] at hj
          simp only [Option.some.injEq, Obj.cells.injEq] at hj
          exact ht hj.2.1.symm
        have t2 : ∀ {j : Nat} {cs : Array Value} {t : TypeId}, w.heap[j]? = some (.cells cs t (0, 0)) → t ≠ 9 → j ≠ q := fun {j cs t} hj ht e => by
          have e1 : w.heap[q]? = _ := H.out.blR
          rw [e, e1] at hj
          simp only [Option.some.injEq, Obj.cells.injEq] at hj
          exact ht hj.2.1.symm
        have t3 : ∀ {j : Nat} {cs : Array Value} {t : TypeId}, w.heap[j]? = some (.cells cs t (0, 0)) → t ≠ 4 → t ≠ 9 → X4.heap[j]? = some (.cells cs t (0, 0)) := fun {j cs t} hj h4 h9 => (hT j (Array.getElem?_eq_some_iff.1 hj).1 (t1 hj h4) (t2 hj h9)).trans hj
        refine ⟨⟨t3 H.out.row (by decide) (by decide), ⟨aE, kE, num0, first0, vB0, t3 hgr (by decide) (by decide), own_kept hgo (fun z hz => ?_)⟩, ?_, HQ4.out, t3 H.out.fiR (by decide) (by decide)⟩, HF3.out.trans' (HF4.out.mono (fun j _ e => .inr e))⟩
        · obtain ⟨cur, hc⟩ := own_type hgo z hz
          rw [t3 hc (by decide) (by decide), hc]
        · exact (HF4.out.old p (Rw.lt HP3.out) hqp.symm).trans HP3.out
      clear hT
      have hsl := fun W => tail_run W q T.L.cnt first (by omega)
      go_wp2_with fail
      go_region_law (refine step_copy rfl (.tmp 57) (.tmp 61) 42 rfl (tailT q T.L.cnt first) (.slice (some ⟨qb, 0, none⟩) c c) (.int .i64 c) (by simp [Act.eval, Act.put]) (by simp [Act.eval, Act.put]) X4 HRUN.out ?_)
      all_goals go_wp2_with fail
      all_goals go_ret
      all_goals exact .inr (.inr ⟨HYES.out, HRV.out, rfl, HEND.out⟩)
end Go.Proofs.YtadinjaocnlglaaGreatDoor
