/-
  The walk of Stock.workOut.
-/
import Derived.Test.YtadinjaocnlglaaGreatDoorZ26
namespace Go.Proofs.YtadinjaocnlglaaGreatDoor
open Go.RowKit
set_option maxRecDepth 100000
set_option maxHeartbeats 4000000
theorem sub_run (W : World) (q cn o u : Nat) (h1 : o < u) (h2 : u ≤ cn) : (Instr.slice 42 (.slice (some ⟨q, 0, none⟩) cn cn) (some (.int .i64 (o : Nat))) (some (.int .i64 (u : Nat))) none).run Tryz.prog W = .ok (.slice (some ⟨q, o, none⟩) (u - o) (cn - o)) W := by
 have hel : Tryz.prog.elem 42 = 9 := by simp [Program.elem, Tryz.underlying42]
 rw [run_slice_lh W 42 _ _ _ (by rw [hel]; exact Tryz.underlying42) .i64 .i64 _ _ (by omega) (by omega) (by omega), hel, size9]
 cases o with
 | zero => simp [Result.andThen, sliced, Addr.add]
 | succ m => simp [Result.andThen, sliced, Addr.add]; omega
def badF (h : Nat → Bool) (o : Nat) : Nat → List Nat
 | 0 => []
 | i + 1 => if h i = true then badF h o i else badF h o i ++ [o + i]
theorem badF_len (h : Nat → Bool) (o : Nat) : ∀ i, (badF h o i).length ≤ i
 | 0 => Nat.le_refl _
 | i + 1 => by
  have := badF_len h o i
  rw [badF]
  split
  ·omega
  ·rw [List.length_append, List.length_singleton]; omega
def mdT (S : Nat → ByteArray) (h : Nat → Bool) (k m c x : Nat) : ByteArray := match filled S (gt (knL h k (k + m))) (gt (wnL h k (k + m))) k (wnL h k (k + m)).length c x with | .string t => t | _ => ⟨#[]⟩
theorem puts_str (z : Nat → Value) (idx : Nat → Nat) (val : Nat → Value) (hz : ∀ x, ∃ t : ByteArray, z x = .string t) (hv : ∀ i, ∃ t : ByteArray, val i = .string t) : ∀ m x, ∃ t : ByteArray, puts z idx val m x = .string t
 | 0, x => hz x
 | m + 1, x => by
  show ∃ t : ByteArray, updV (puts z idx val m) (idx m) (val m) x = .string t
  unfold updV
  split
  ·exact hv m
  ·exact puts_str z idx val hz hv m x
theorem mdT_eq (S : Nat → ByteArray) (h : Nat → Bool) (k m c x : Nat) : filled S (gt (knL h k (k + m))) (gt (wnL h k (k + m))) k (wnL h k (k + m)).length c x = .string (mdT S h k m c x) := by
 obtain ⟨t, ht⟩ := puts_str (puts (fun _ => .string ⟨#[]⟩) (gt (knL h k (k + m))) (fun i => .string (S (gt (knL h k (k + m)) i))) k) (gt (wnL h k (k + m))) (tI (vl (gt (knL h k (k + m))) (gt (wnL h k (k + m))) k c fun i => S (gt (knL h k (k + m)) i))) (puts_str _ _ _ (fun x => ⟨_, rfl⟩) (fun i => ⟨_, rfl⟩) k) (fun i => ⟨_, rfl⟩) (wnL h k (k + m)).length x
 unfold mdT
 have e : filled S (gt (knL h k (k + m))) (gt (wnL h k (k + m))) k (wnL h k (k + m)).length c x = .string t := ht
 rw [e]
def fate (kt : Nat → Int) (K M C : Nat) (lv : ByteArray) (s len : Nat) (S : Nat → ByteArray) (h : Nat → Bool) : Nat :=
 if cnt h (K + M) < K then 1 else if frg kt K M C lv s len S h (mdT S h K M C) then 2 else 0
def fnC (bv : Value) (f : Nat) : Array Value := #[bv, .int .i64 f]
def WDid (q cn : Nat) (bl : Nat → ByteArray) (o n fa : Nat) (bad : List Nat) (A : Nat → ByteArray) (w : World) (e : Ending) (w' : World) : Prop :=
 ∃ z bv, e = .returned (.pointer (some ⟨z, 0, none⟩)) ∧ w.heap.size ≤ z ∧ w'.heap[z]? = some (.cells (fnC bv fa) 231 (0, 0)) ∧ w'.ownsRow w.heap.size 3 1 bv bad.length (unV bad) ∧ Rw w' q cn 9 (tX (if fa = 0 then laid bl o n A else bl)) ∧ Fr (fun j => j = q) w w'
structure HB (B k g q cn : Nat) (T : TT) (bl : Nat → ByteArray) (w : World) : Prop where
 a0 : w.cell? ⟨k, 0, none⟩ = some (.pointer (some ⟨g, 0, none⟩))
 a3 : w.cell? ⟨k, 3, none⟩ = some (.slice (some ⟨q, 0, none⟩) cn cn)
 hd : Head2 B g T w
 bR : Rw w q cn 9 (tX bl)
theorem HB.below {B k g q cn : Nat} {T : TT} {bl : Nat → ByteArray} {w w' : World} (h : HB B k g q cn T bl w) (hb : Below w.heap.size w w') : HB B k g q cn T bl w' where
 a0 := (hb.cell (p := ⟨k, 0, none⟩) (block_lt_of_cell h.a0)).trans h.a0
 a3 := (hb.cell (p := ⟨k, 3, none⟩) (block_lt_of_cell h.a3)).trans h.a3
 hd := by
  obtain ⟨aE, kE, num, first, vB, h1, h2⟩ := h.hd
  exact ⟨aE, kE, num, first, vB, (hb.block g (Array.getElem?_eq_some_iff.1 h1).1).trans h1, own_below h2 hb⟩
 bR := (hb.block q (Array.getElem?_eq_some_iff.1 h.bR).1).trans h.bR
structure WI (K M C V p b2 z n : Nat) (h : Nat → Bool) (o : Nat) (wr : World) (i : Nat) (bv : Value) : Prop where
 lt1 : p < b2
 lt2 : b2 < z
 gR : Rw wr b2 n 4 (part' i (bI h) (.bool false))
 fR : wr.heap[z]? = some (.cells (fnC bv 0) 231 (0, 0))
 pR : wr.heap[p]? = some (.cells #[.int .i64 K, .int .i64 M, .int .i64 C, .int .i64 V] 23 (0, 0))
 own : wr.ownsRow p 3 1 bv (badF h o i).length (unV (badF h o i))
theorem WI.below {K M C V p b2 z n : Nat} {h : Nat → Bool} {o : Nat} {wr w' : World} {i : Nat} {bv : Value} (hI : WI K M C V p b2 z n h o wr i bv) (hb : Below wr.heap.size wr w') : WI K M C V p b2 z n h o w' i bv where
 lt1 := hI.lt1
 lt2 := hI.lt2
 gR := (hb.block _ (Array.getElem?_eq_some_iff.1 hI.gR).1).trans hI.gR
 fR := (hb.block _ (Array.getElem?_eq_some_iff.1 hI.fR).1).trans hI.fR
 pR := (hb.block _ (Array.getElem?_eq_some_iff.1 hI.pR).1).trans hI.pR
 own := own_below hI.own hb
structure WJ (K M C V p b2 z n : Nat) (h : Nat → Bool) (o : Nat) (wr : World) (i : Nat) (bv : Value) : Prop where
 lt1 : p < b2
 lt2 : b2 < z
 gR : Rw wr b2 n 4 (part' (i + 1) (bI h) (.bool false))
 fR : wr.heap[z]? = some (.cells (fnC bv 0) 231 (0, 0))
 pR : wr.heap[p]? = some (.cells #[.int .i64 K, .int .i64 M, .int .i64 C, .int .i64 V] 23 (0, 0))
 own : wr.ownsRow p 3 1 bv (badF h o i).length (unV (badF h o i))
theorem WI.put {K M C V p b2 z n : Nat} {h : Nat → Bool} {o : Nat} {wr Y : World} {i : Nat} {bv : Value} {b : Bool} (hI : WI K M C V p b2 z n h o wr i bv) (hb : h i = b) (hY : wr.setCell ⟨b2, i, none⟩ (.bool b) = Y) : WJ K M C V p b2 z n h o Y i bv := by
 subst hY
 have l1 := hI.lt1; have l2 := hI.lt2
 refine ⟨l1, l2, (hI.gR.put i _).to (fun j _ => by rw [← hb, ← part_step]; rfl), ?_, ?_, own_kept hI.own (fun y hy => ?_)⟩
 ·rw [set_other _ _ _ _ _ (by omega)]; exact hI.fR
 ·rw [set_other _ _ _ _ _ (by omega)]; exact hI.pR
 ·obtain ⟨cur, hcur⟩ := own_type hI.own y hy
  exact set_other _ _ _ _ _ (row_ne hcur hI.gR (by decide))
theorem WJ.good {K M C V p b2 z n : Nat} {h : Nat → Bool} {o : Nat} {wr : World} {i : Nat} {bv : Value} (hJ : WJ K M C V p b2 z n h o wr i bv) (hb : h i = true) : WI K M C V p b2 z n h o wr (i + 1) bv :=
 ⟨hJ.lt1, hJ.lt2, hJ.gR, hJ.fR, hJ.pR, by rw [badF, if_pos hb]; exact hJ.own⟩
theorem WJ.old {K M C V p b2 z n : Nat} {h : Nat → Bool} {o : Nat} {wr w2 : World} {i : Nat} {bv : Value} {ob : Obj} (hJ : WJ K M C V p b2 z n h o wr i bv) (hG : (wr.alloc ob).grownBy w2 bv.ownBlock) (j : Nat) (cs : Array Value) (t : TypeId) (hj : wr.heap[j]? = some (.cells cs t (0, 0))) (ht : t ≠ 3) : w2.heap[j]? = some (.cells cs t (0, 0)) := by
 have hjl := (Array.getElem?_eq_some_iff.1 hj).1
 rw [hG.block j (by simp; omega) (fun e => by
  obtain ⟨cur, hcur⟩ := own_type hJ.own j e.symm
  exact row_ne hj hcur ht rfl), heap_alloc_old _ _ hjl]
 exact hj
theorem WJ.kept2 {K M C V p b2 z n : Nat} {h : Nat → Bool} {o : Nat} {wr w2 : World} {i : Nat} {bv : Value} {ob : Obj} (hJ : WJ K M C V p b2 z n h o wr i bv) (hG : (wr.alloc ob).grownBy w2 bv.ownBlock) : w2.heap[z]? = some (.cells (fnC bv 0) 231 (0, 0)) := hJ.old hG _ _ _ hJ.fR (by decide)
theorem WJ.cell {K M C V p b2 z n : Nat} {h : Nat → Bool} {o : Nat} {wr : World} {i : Nat} {bv : Value} {b : Bool} (hJ : WJ K M C V p b2 z n h o wr i bv) (hi : i < n) (hb : h i = b) : wr.cell? ⟨b2, i, none⟩ = some (.bool b) := by
 rw [hJ.gR.cell i hi]
 simp [part', bI, hb]
theorem WJ.bad {K M C V p b2 z n : Nat} {h : Nat → Bool} {o : Nat} {wr w2 : World} {i L : Nat} {bv v2 : Value} {ob : Obj} (hJ : WJ K M C V p b2 z n h o wr i bv) (hG : (wr.alloc ob).grownBy w2 bv.ownBlock) (hb : h i = false) (hL : (badF h o i).length = L) (hO : w2.ownsRow p 3 1 v2 (L + 1) (unV (badF h o i) ++ [.int .i64 ((o + i : Nat) : Int)])) : WI K M C V p b2 z n h o (w2.setCell ⟨z, 0, none⟩ v2) (i + 1) v2 := by
 have hf : badF h o (i + 1) = badF h o i ++ [o + i] := by rw [badF, if_neg (by rw [hb]; simp)]
 have l1 := hJ.lt1; have l2 := hJ.lt2
 have e1 : unV (badF h o i) ++ [.int .i64 ((o + i : Nat) : Int)] = unV (badF h o (i + 1)) := by rw [hf]; simp [unV]
 have e2 : L + 1 = (badF h o (i + 1)).length := by rw [hf, ← hL]; simp
 rw [e1, e2] at hO
 refine ⟨l1, l2, ?_, ?_, ?_, own_kept hO (fun y hy => ?_)⟩
 ·show (w2.setCell ⟨z, 0, none⟩ v2).heap[b2]? = _
  rw [set_other _ _ _ _ _ (by omega)]; exact hJ.old hG _ _ _ hJ.gR (by decide)
 ·rw [set_heap _ _ _ _ _ _ _ (hJ.kept2 hG)]; rfl
 ·rw [set_other _ _ _ _ _ (by omega)]; exact hJ.old hG _ _ _ hJ.pR (by decide)
 ·obtain ⟨cur, hcur⟩ := own_type hO y hy
  exact set_other _ _ _ _ _ (row_ne hcur (hJ.kept2 hG) (by decide))
theorem WI.done {K M C V p b2 z n : Nat} {h : Nat → Bool} {o q cn f : Nat} {w w1 : World} {bv : Value} {bl A : Nat → ByteArray} (hI : WI K M C V p b2 z n h o w1 n bv) (hb : Below w.heap.size w w1) (hp : w.heap.size = p) (hR : Rw w1 q cn 9 (tX bl)) (hf : f ≠ 0) : WDid q cn bl o n f (badF h o n) A w (.returned (.pointer (some ⟨z, 0, none⟩))) (w1.setCell ⟨z, 1, none⟩ (.int .i64 f)) := by
 have l1 := hI.lt1; have l2 := hI.lt2
 refine ⟨z, bv, rfl, by omega, ?_, ?_, ?_, Fr.below (hb.setCell (by show w.heap.size ≤ z; omega) _)⟩
 ·rw [set_heap _ _ _ _ _ _ _ hI.fR]; rfl
 ·rw [hp]
  refine own_kept hI.own (fun y hy => ?_)
  obtain ⟨cur, hcur⟩ := own_type hI.own y hy
  exact set_other _ _ _ _ _ (row_ne hcur hI.fR (by decide))
 ·rw [if_neg hf]
  show (w1.setCell ⟨z, 1, none⟩ (.int .i64 f)).heap[q]? = _
  rw [set_other _ _ _ _ _ (row_ne hR hI.fR (by decide))]
  exact hR
theorem WI.made {K M C V p b2 z n : Nat} {h : Nat → Bool} {o q cn : Nat} {w w1 w2 : World} {bv : Value} {bl A : Nat → ByteArray} (hI : WI K M C V p b2 z n h o w1 n bv) (hb : Below w.heap.size w w1) (hp : w.heap.size = p) (hq : q < p) (hF : Fr (fun j => j = q) w1 w2) (hR : Rw w2 q cn 9 (tX (laid bl o n A))) : WDid q cn bl o n 0 (badF h o n) A w (.returned (.pointer (some ⟨z, 0, none⟩))) w2 := by
 have l1 := hI.lt1; have l2 := hI.lt2
 refine ⟨z, bv, rfl, by omega, ?_, ?_, ?_, (Fr.below hb).trans' hF⟩
 ·rw [hF.old z (Array.getElem?_eq_some_iff.1 hI.fR).1 (by show ¬ z = q; omega)]; exact hI.fR
 ·rw [hp]
  exact own_kept hI.own (fun y hy => hF.old y (own_lt hI.own y hy) (by have := own_ge hI.own y hy; show ¬ y = q; omega))
 ·rw [if_pos rfl]; exact hR
theorem WI.cl {K M C V p b2 z n : Nat} {h : Nat → Bool} {o : Nat} {w1 : World} {bv : Value} (hI : WI K M C V p b2 z n h o w1 n bv) : Cl w1 b2 n (bI h) := (hI.gR.to (fun j hj => by simp [part', hj])).cl
set_option maxHeartbeats 8000000 in
theorem workOut_any (kt : Nat → Int) (B k g q cn s n o : Nat) (T : TT) (bl S : Nat → ByteArray) (hd : Nat → Bool) (w : World) (h : HB B k g q cn T bl w) (hT : Told1 T) (hle : T.L.es.length ≤ 16 ∧ lenE T.L.es ≤ 4096) (hG : Gd kt w) (hcn : T.L.cnt = cn) (hs : s < T.L.ns) (hn : T.L.K + T.L.M = n) (ho : s * n = o)
  (hSi : ∀ i, i < n → bl (o + i) = S i) (hhi : ∀ i, i < n → goodB kt T.L.C T.lv (o + i) (S i) = hd i) :
  Calls Tryz.prog 179 #[.pointer (some ⟨k, 0, none⟩), .int .i64 s] w fun e w' => WDid q cn bl o n (fate kt T.L.K T.L.M T.L.C T.lv s (lenE T.L.es) S hd) (badF hd o n) (mdT S hd T.L.K T.L.M T.L.C) w e w' := by
 have HH : Hid _ := h
 obtain ⟨aE, kE, num, first, vB, hg, hoE⟩ := h.hd
 have a0 := h.a0
 have a3 := h.a3
 have hk1 := hT.k1; have hkm := hT.km; have hc1 := hT.c1; have hc64 := hT.c64; have hcnt := hT.cnt; have hlv := hT.lv
 obtain ⟨K, hKe⟩ : ∃ x, T.L.K = x := ⟨_, rfl⟩
 obtain ⟨M, hMe⟩ : ∃ x, T.L.M = x := ⟨_, rfl⟩
 obtain ⟨C, hCe⟩ : ∃ x, T.L.C = x := ⟨_, rfl⟩
 obtain ⟨V, hVe⟩ : ∃ x, T.L.V = x := ⟨_, rfl⟩
 obtain ⟨len, hlen⟩ : ∃ x, lenE T.L.es = x := ⟨_, rfl⟩
 have hns : T.L.ns * n = cn := by rw [← hcn, ← hn]; rfl
 have hon : o + n ≤ cn := by rw [← hns, ← ho, ← Nat.succ_mul]; exact Nat.mul_le_mul_right n hs
 have hsz : s * (K * C) < len := by
  have h1 : s + 1 ≤ nst (K * C) len := by rw [← hKe, ← hCe, ← hlen]; exact hs
  unfold nst at h1
  have h2 := (Nat.le_div_iff_mul_le (Nat.mul_pos (by omega : 0 < K) (by omega : 0 < C))).1 h1
  rw [Nat.succ_mul] at h2
  have : 0 < K * C := Nat.mul_pos (by omega) (by omega)
  omega
 rw [hKe, hMe, hCe, hVe] at hg
 rw [hCe, hlen, hKe, hMe]
 rw [hCe] at hhi
 rw [hKe] at hk1 hkm hn
 rw [hMe] at hkm hn
 rw [hCe] at hc1 hc64
 rw [hcn] at hcnt hlv
 obtain ⟨lv, hlve⟩ : ∃ x, T.lv = x := ⟨_, rfl⟩
 rw [hlve] at hg hlv hhi
 rw [hlve]
 have HSI : Hid _ := hSi
 have HHI : Hid _ := hhi
 clear hSi hhi
 have c2 : w.cell? ⟨g, 2, none⟩ = some (.int .i64 K) := cell_of_row _ _ _ _ 319 _ hg
 have c3 : w.cell? ⟨g, 3, none⟩ = some (.int .i64 M) := cell_of_row _ _ _ _ 319 _ hg
 have c4 : w.cell? ⟨g, 4, none⟩ = some (.int .i64 C) := cell_of_row _ _ _ _ 319 _ hg
 have c5 : w.cell? ⟨g, 5, none⟩ = some (.int .i64 V) := cell_of_row _ _ _ _ 319 _ hg
 have hoo : (s : Int) * (n : Int) = (o : Int) := by rw [← ho]; simp
 obtain ⟨u, hu⟩ : ∃ u, o + n = u := ⟨_, rfl⟩
 have hou : (o : Int) + (K : Int) + (M : Int) = (u : Int) := by omega
 have hnn : (K : Int) + (M : Int) = (n : Int) := by omega
 have hsl := fun W => sub_run W q cn o u (by omega) (by omega)
 have hun : u - o = n := by omega
 rw [hun] at hsl
 have hkl : k < w.heap.size := block_lt_of_cell a0
 have hgl : g < w.heap.size := (Array.getElem?_eq_some_iff.1 hg).1
 have hql : q < w.heap.size := (Array.getElem?_eq_some_iff.1 h.bR).1
 have hs512 : s ≤ 10000 := by have : s * 1 ≤ s * n := Nat.mul_le_mul_left s (by omega); omega
 have HGD : Hid (∀ (X : World) (i : Nat), Below w.heap.size w X → i < n → Calls Tryz.prog 220 #[.pointer (some ⟨k, 0, none⟩), .int .i64 ((o + i : Nat) : Int), .string (S i)] X fun e w' => e = .returned (.bool (hd i)) ∧ Below X.heap.size X w') := fun X i hX hi => by
  have e1 := (hX.block g hgl).trans hg
  rw [← HHI.out i hi]
  exact isGood_any kt k g (o + i) C lv (S i) X ((hX.cell (p := ⟨k, 0, none⟩) hkl).trans a0) (cell_of_row _ _ _ _ 319 _ e1) (cell_of_row _ _ _ _ 319 _ e1) (hG.below hX) (by rw [hlv]; exact Nat.mul_le_mul_right 32 (by omega)) (by omega) hc64
 obtain ⟨p, hp⟩ : ∃ p, w.heap.size = p := ⟨_, rfl⟩
 have m4 := run_make_row' (P := Tryz.prog) 94 4 (.bool false) 1 Tryz.underlying94 info4 rfl .i64 .i64 n (by omega) (by omega)
 obtain ⟨W, hW⟩ : ∃ W, w.alloc (.cells #[.int .i64 K, .int .i64 M, .int .i64 C, .int .i64 V] 23) = W := ⟨_, rfl⟩
 have hbW : Below w.heap.size w W := by rw [← hW]; exact (Below.refl _ _).alloc (Nat.le_refl _) _
 have hpW : W.heap[p]? = some (.cells #[.int .i64 K, .int .i64 M, .int .i64 C, .int .i64 V] 23 (0, 0)) := by rw [← hW, ← hp]; exact heap_alloc_new _ _
 have x3 := (hbW.cell (p := ⟨k, 3, none⟩) hkl).trans a3
 have x0 : W.cell? ⟨p, 0, none⟩ = some (.int .i64 K) := cell_of_row _ _ _ _ 23 _ hpW
 have x1 : W.cell? ⟨p, 1, none⟩ = some (.int .i64 M) := cell_of_row _ _ _ _ 23 _ hpW
 have HBW : Hid _ := hbW
 have HPW : Hid _ := hpW
 have HP : Hid (w.heap.size = p) := hp
 have HWS : Hid (W.heap.size = p + 1) := by show W.heap.size = p + 1; rw [← hW, ← hp]; simp
 clear hbW hpW
 go_enter Tryz.func179, Tryz.ntmps179
 go_wp2_with fail
 try rw [hW]
 clear hW hp c2 c3 c4 c5
 go_quiet (fail)
 go_wp2_with fail
 obtain ⟨X0, hX0⟩ : ∃ X, ((W.drewN nq).alloc (.cells (madeCells #[.bool false] n) 4)).alloc (.cells #[.slice none 0 0, .int .i64 0] 231) = X := ⟨_, rfl⟩
 obtain ⟨b2, hb2⟩ : ∃ x, p + 1 = x := ⟨_, rfl⟩
 obtain ⟨z, hz⟩ : ∃ x, b2 + 1 = x := ⟨_, rfl⟩
 rw [hX0, HWS.out, hb2, hz]
 have hb0 : Below w.heap.size w X0 := by rw [← hX0]; exact ((below_drewN HBW.out nq).alloc (by show w.heap.size ≤ W.heap.size; exact HBW.out.size) _).alloc (by simp; have := HBW.out.size; omega) _
 have r0 : WI K M C V p b2 z n hd o X0 0 (.slice none 0 0) := by
  have hbp : Below W.heap.size W X0 := by rw [← hX0]; exact ((below_drewN (Below.refl _ _) nq).alloc (Nat.le_refl _) _).alloc (by simp) _
  refine ⟨by omega, by omega, ?_, ?_, ?_, ⟨rfl, .inl ⟨rfl, rfl⟩⟩⟩
  ·have := (Rw.made (W.drewN nq) n 4 (.bool false)).alloc (.cells #[.slice none 0 0, .int .i64 0] 231)
   rw [hX0, show (W.drewN nq).heap.size = b2 from HWS.out.trans hb2] at this
   exact this.to (fun j _ => (part_0 _ _ j).symm)
  ·have := heap_alloc_new ((W.drewN nq).alloc (.cells (madeCells #[.bool false] n) 4)) (.cells #[.slice none 0 0, .int .i64 0] 231)
   rw [hX0, show ((W.drewN nq).alloc (.cells (madeCells #[.bool false] n) 4)).heap.size = z by simp [HWS.out]; omega] at this
   exact this
  ·exact (hbp.block p (by rw [HWS.out]; omega)).trans HPW.out
 have HB0 : Hid _ := hb0
 have HR0 : Hid _ := r0
 have hb2p : p < b2 := by omega
 have hz2 : b2 < z := by omega
 clear hb0 r0 hX0 hb2 hz
 obtain ⟨i0, hi0, z0, z1, z2⟩ := info_parts info3
 go_loopw [48] (fun iv wr => ∃ (i : Nat) (bv : Value), i ≤ n ∧ iv = .int .i64 i ∧ Below w.heap.size w wr ∧ WI K M C V p b2 z n hd o wr i bv) (fun iv _ => n - (intOf iv).toNat)
 case atStart => exact ⟨0, _, by omega, rfl, HB0.out, HR0.out⟩
 case round =>
  obtain ⟨i, bv, hi, rfl, hB, hI⟩ := hrel
  have HB : Hid _ := hB
  have HI : Hid _ := hI
  by_cases hlt : i < n
  ·have c1 : wr.cell? ⟨q, o + i, none⟩ = some (.string (S i)) := by rw [← HSI.out i hlt]; exact ((HH.out.below hB).bR.cell (o + i) (by omega))
   have hin : (i : Int) < (n : Int) := by omega
   have HGI : Hid _ := HGD.out wr i hB hlt
   obtain ⟨x, hx⟩ : ∃ x, o + i = x := ⟨_, rfl⟩
   rw [hx] at HGI
   have hoi : (o : Int) + (i : Int) = (x : Int) := by omega
   have HX : Hid _ := hx
   clear hB hI hx
   go_wp2_with fail
   refine Calls.mono HGI.out ?_
   rintro e w1 ⟨rfl, hb1⟩
   have HI1 : Hid _ := HI.out.below hb1
   have HB1 : Hid (Below w.heap.size w w1) := HB.out.trans (hb1.mono HB.out.size)
   have d1 := HI1.out.gR.cell i hlt
   have d2 := HI1.out.gR.free i
   clear hb1 c1
   obtain ⟨gi, hgi⟩ : ∃ b, hd i = b := ⟨_, rfl⟩
   have HGV : Hid _ := hgi
   rw [hgi]
   obtain ⟨Y, hY⟩ : ∃ Y, w1.setCell ⟨b2, i, none⟩ (.bool gi) = Y := ⟨_, rfl⟩
   have HY : Hid _ := WI.put HI1.out HGV.out hY
   have HBY : Hid (Below w.heap.size w Y) := by show Below w.heap.size w Y; rw [← hY]; exact HB1.out.setCell (by rw [HP.out]; show p ≤ b2; omega) _
   have y1 := HY.out.cell hlt HGV.out
   clear hgi
   cases gi with
   | true =>
    go_wp2_with fail
    go_roundw
    case rel => exact ⟨i + 1, bv, by omega, by go_num, HBY.out, HY.out.good HGV.out⟩
    case measure => simp [intOf]; omega
   | false =>
    obtain ⟨au, cu, hbv⟩ := own_shape HY.out.own
    obtain ⟨L, hL⟩ : ∃ L, (badF hd o i).length = L := ⟨_, rfl⟩
    have hL2 : L ≤ n := by have := badF_len hd o i; omega
    have HL : Hid _ := hL
    rw [hL] at hbv
    subst hbv
    have HU : Hid (Y.ownsRow p 3 1 (.slice au L cu) L (unV (badF hd o i))) := by have := HY.out.own; rw [hL] at this; exact this
    have m0 : Y.cell? ⟨z, 0, none⟩ = some (.slice au L cu) := cell_of_row _ _ _ _ 231 _ HY.out.fR
    have hpY : p ≤ Y.heap.size := by rw [← HP.out]; exact HBY.out.size
    have HM : Hid (∀ w2 : World, (Y.alloc (.cells #[.int .i64 x] 3)).grownBy w2 (Value.slice au L cu).ownBlock → w2.heap[z]? = some (.cells (fnC (.slice au L cu) 0) 231 (0, 0))) := fun w2 hG => HY.out.kept2 hG
    clear hL
    go_wp2_with (at_builtin; refine wpList_append_own _ rfl (.tmp 71) (.tmp 75) 39 rfl p 3 i0 (.int .i64 0) 1 8 Tryz.underlying39 hi0 z0 z1 z2 rfl (by decide) (.slice au L cu) L (unV (badF hd o i)) (by simp [Act.eval]) (HU.out.alloc _) ⟨Y.heap.size, 0, none⟩ 1 1 [.int .i64 x] (by simp [Act.eval]) rfl (cell_one_new _ _ _) (by intro u hu; simp at hu; subst hu; rfl) (by unfold maxLen; omega) (by omega) (by simp; omega) ?_; intro v2 w2 hO2 hG2 _; obtain ⟨a2, k2, hv2⟩ := own_shape hO2; subst hv2; have hk2 := HM.out w2 hG2; have m1 : w2.cell? ⟨z, 0, none⟩ = some (.slice au L cu) := (cell_of_row _ _ _ _ 231 _ hk2); have m2 := frozen_of_row w2 z 0 _ 231 hk2; have HO2 : Hid _ := hO2; have HG2 : Hid _ := hG2; clear hO2 hG2 hk2)
    refine ⟨⟨i + 1, _, by omega, by go_num, ?_, HY.out.bad HG2.out HGV.out HL.out (by rw [HX.out]; exact HO2.out)⟩, by simp [intOf]; omega⟩
    exact Fr.toBelow ((((Fr.below HBY.out).alloc (.cells #[.int .i64 x] 3)).grown HG2.out (fun y hy => .inr (by rw [HP.out]; exact own_ge HU.out y hy))).set (g := z) (.inr (by rw [HP.out]; omega)) _ _)
  ·have ei : i = n := by omega
   subst ei
   have x0 : wr.cell? ⟨p, 0, none⟩ = some (.int .i64 K) := cell_of_row _ _ _ _ 23 _ hI.pR
   have x1 : wr.cell? ⟨p, 1, none⟩ = some (.int .i64 M) := cell_of_row _ _ _ _ 23 _ hI.pR
   have hbR : Rw wr q cn 9 (tX bl) := (HH.out.below hB).bR
   have hSC : ClO wr q o i (tI S) := fun j hj => by
    have := hbR.cell (o + j) (by omega)
    rw [this]
    show some (Value.string (bl (o + j))) = some (.string (S j))
    rw [HSI.out j hj]
   have hSz : ∀ j, j < i → hd j = true → (S j).size = C := fun j hji hj => goodB_size ((HHI.out j hji).trans hj)
   have hb2l : b2 < wr.heap.size := (Array.getElem?_eq_some_iff.1 hI.gR).1
   have hqw : q < wr.heap.size := (Array.getElem?_eq_some_iff.1 hbR).1
   have HBR : Hid (Rw wr q cn 9 (tX bl)) := hbR
   by_cases hct : cnt hd i < K
   ·have HF : Hid (fate kt K M C lv s len S hd = 1) := by show fate kt K M C lv s len S hd = 1; unfold fate; rw [hn, if_pos hct]
    have HRF := restore_few S hd K M C q o (cn - o) b2 i wr (by omega) (by omega) (by rw [hn]; exact hSz) (by rw [hn, knL_cnt]; omega) hb2l (by rw [hn]; exact hSC) (by rw [hn]; exact hI.cl)
    rw [hn] at HRF
    have HRF' : Hid _ := HRF
    clear HRF hB hI hbR hSC hSz
    go_wp2_with fail
    refine Calls.mono HRF'.out ?_
    rintro e w1 ⟨zz, rfl, hb1⟩
    have HI1 : Hid _ := HI.out.below hb1
    have HB1 : Hid (Below w.heap.size w w1) := HB.out.trans (hb1.mono HB.out.size)
    have HR1 : Hid (Rw w1 q cn 9 (tX bl)) := (hb1.block q hqw).trans HBR.out
    have d1 : w1.cell? ⟨z, 1, none⟩ = some (.int .i64 0) := cell_of_row _ _ _ _ 231 _ HI1.out.fR
    have d2 := frozen_of_row w1 z 1 _ 231 HI1.out.fR
    clear hb1 x0 x1
    go_wp2_with fail
    go_ret
    exact (show WDid q cn bl o i (fate kt K M C lv s len S hd) (badF hd o i) (mdT S hd K M C) w _ _ by rw [HF.out]; exact HI1.out.done HB1.out HP.out HR1.out (by decide))
   ·obtain ⟨i1, hi1, h1, h2⟩ := cnt_first hd i (by omega)
    have HRO : Calls Tryz.prog 221 #[.int .i64 K, .int .i64 M, .slice (some ⟨q, o, none⟩) (K + M) (cn - o), .slice (some ⟨b2, 0, none⟩) (K + M) i] wr fun e w' => ∃ g, e = .returned (.tuple #[.slice (some ⟨g, 0, none⟩) (K + M) (K + M), .nilIface]) ∧ Rw w' g (K + M) 9 (tX (mdT S hd K M C)) ∧ Below wr.heap.size wr w' :=
     (restore_o S hd K M C q o (cn - o) b2 i i1 wr (by omega) (by omega) (by omega) (by rw [hn]; exact hi1) h1 h2 (by rw [hn]; exact hSz) (by rw [hn, knL_cnt]; omega) hqw hb2l (by rw [hn]; exact hSC) (by rw [hn]; exact hI.cl)).mono (by rintro e w' ⟨g, a, b, c, d⟩; exact ⟨g, a, c.to (fun j _ => mdT_eq S hd K M C j), d⟩)
    rw [hn] at HRO
    have HRO' : Hid _ := HRO
    obtain ⟨A, hA⟩ : ∃ A, mdT S hd K M C = A := ⟨_, rfl⟩
    have HFT : Hid (fate kt K M C lv s len S hd = if frg kt K M C lv s len S hd A then 2 else 0) := by show fate kt K M C lv s len S hd = _; unfold fate; rw [hn, if_neg hct, hA]
    have HFG : Hid (∀ (X : World) (md : Nat), Below wr.heap.size wr X → Rw X md i 9 (tX A) → Calls Tryz.prog 222 #[.pointer (some ⟨k, 0, none⟩), .int .i64 s, .slice (some ⟨q, o, none⟩) i (cn - o), .slice (some ⟨b2, 0, none⟩) i i, .slice (some ⟨md, 0, none⟩) i i] X fun e w' => e = .returned (.bool (frg kt K M C lv s len S hd A)) ∧ Below X.heap.size X w') := fun X md hX hR => by
     have hXw : Below w.heap.size w X := hB.trans (hX.mono hB.size)
     exact forged_any kt k g B K M C V num first s q b2 md i o len (cn - o) i aE kE T.L.es T.root T.lst lv vB S A hd X ((hXw.cell (p := ⟨k, 0, none⟩) hkl).trans a0) ((hXw.block g hgl).trans hg) (own_below hoE hXw) hle.1 hle.2 hlen (hG.below hXw) (by omega) (by omega) hn.symm hc1 hc64 (by rw [hlv]; exact Nat.mul_le_mul_right 32 hon) (by omega) (by rw [hn]; exact ho) hs512 hsz (Nat.lt_of_lt_of_le hqw hX.size) (ClO.below hSC hX hqw) (Nat.lt_of_lt_of_le hb2l hX.size) (Cl.below hI.cl hX hb2l) hR
    rw [hA] at HRO'
    have HA : Hid _ := hA
    clear HRO hB hI hbR hSC hSz h1 h2
    go_wp2_with fail
    refine Calls.mono HRO'.out ?_
    rintro e w1 ⟨md, rfl, hRm, hb1⟩
    have HFC : Hid _ := HFG.out w1 md hb1 hRm
    have HI1 : Hid _ := HI.out.below hb1
    have HB1 : Hid (Below w.heap.size w w1) := HB.out.trans (hb1.mono HB.out.size)
    have HR1 : Hid (Rw w1 q cn 9 (tX bl)) := (hb1.block q hqw).trans HBR.out
    have HRM : Hid (Rw w1 md i 9 (tX A)) := hRm
    have HQ1 : Hid (q < w1.heap.size) := Nat.lt_of_lt_of_le hqw hb1.size
    clear hb1 hRm x0 x1
    obtain ⟨fb, hfb⟩ : ∃ b, frg kt K M C lv s len S hd A = b := ⟨_, rfl⟩
    rw [hfb] at HFT HFC
    clear hfb
    go_wp2_with fail
    refine Calls.mono HFC.out ?_
    rintro e w2 ⟨rfl, hb2⟩
    have HI2 : Hid _ := HI1.out.below hb2
    have HB2 : Hid (Below w.heap.size w w2) := HB1.out.trans (hb2.mono HB1.out.size)
    have HR2 : Hid (Rw w2 q cn 9 (tX bl)) := (hb2.block q HQ1.out).trans HR1.out
    have HRM2 : Hid (Rw w2 md i 9 (tX A)) := (hb2.block md (Array.getElem?_eq_some_iff.1 HRM.out).1).trans HRM.out
    clear hb2
    cases fb with
    | true =>
     have d1 : w2.cell? ⟨z, 1, none⟩ = some (.int .i64 0) := cell_of_row _ _ _ _ 231 _ HI2.out.fR
     have d2 := frozen_of_row w2 z 1 _ 231 HI2.out.fR
     go_wp2_with fail
     go_ret
     exact (show WDid q cn bl o i (fate kt K M C lv s len S hd) (badF hd o i) (mdT S hd K M C) w _ _ by rw [HFT.out]; exact HI2.out.done HB2.out HP.out HR2.out (by decide))
    | false =>
     obtain ⟨X', hcp, hR', hF'⟩ := copy_rows w2 q cn o i (cn - o) md i i bl A 3 HR2.out HRM2.out hon (Nat.le_refl _)
     have HR' : Hid _ := hR'
     have HF' : Hid _ := hF'
     clear hR' hF'
     go_wp2_with fail
     go_ret
     exact (show WDid q cn bl o i (fate kt K M C lv s len S hd) (badF hd o i) (mdT S hd K M C) w _ _ by rw [HFT.out, HA.out]; exact HI2.out.made HB2.out HP.out (by rw [← HP.out]; exact hql) HF'.out HR'.out)
end Go.Proofs.YtadinjaocnlglaaGreatDoor
