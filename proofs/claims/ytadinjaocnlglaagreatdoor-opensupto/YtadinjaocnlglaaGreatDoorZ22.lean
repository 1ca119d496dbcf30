/-
  The document's amount.
  The walk of stock.read.
  The walks of Head.CountStripes and Head.Same.
  The walk of Stock.begin.
  A row copied into the midst of another; as one step of a region that draws.
-/
import Derived.Test.YtadinjaocnlglaaGreatDoorZ21
import Derived.Test.YtadinjaocnlglaaGreatDoorZ20
import Derived.Laws.CopyRow
namespace Go.Proofs.YtadinjaocnlglaaGreatDoor
open Go.RowKit
set_option maxRecDepth 100000
set_option maxHeartbeats 4000000
theorem ramount (B n c : Nat) (a : Option Addr) (es : List (ByteArray × Nat)) (w : World) (hn : es.length = n) (ho : w.ownsRow B 70 2 (.slice a n c) n (enV es)) (hs : ∀ i, lenE (es.take i) ≤ 1000000) (hn2 : n ≤ 1000) :
  Calls Tryz.prog 134 #[.slice a n c] w fun e w' => e = .returned (.int .i64 (lenE es)) ∧ w' = w := by
 have HC : Hid _ := fun i hi => en_cells hn ho i hi
 have HS : Hid _ := hs
 have HN : Hid _ := hn
 clear ho hs hn
 go_enter Tryz.func134, Tryz.ntmps134
 go_wp2_with fail
 go_loopw [3, 4] (fun sv iv wr => ∃ i : Nat, i ≤ n ∧ iv = .int .i64 i ∧ sv = .int .i64 (lenE (es.take i)) ∧ wr = w) (fun _ iv _ => n - (intOf iv).toNat)
 case atStart => exact ⟨0, by omega, rfl, by simp [lenE], rfl⟩
 case round =>
  obtain ⟨i, hi, rfl, rfl, rfl⟩ := hrel
  by_cases hlt : i < n
  ·have hil : i < es.length := by rw [HN.out]; exact hlt
   obtain ⟨g, ha, hgl, x0, y1⟩ := HC.out i hil
   subst ha
   have HT : Hid _ := lenE_take es i hil
   have h1 := HS.out (i + 1)
   rw [HT.out] at h1
   obtain ⟨t, ht⟩ : ∃ t, lenE (es.take i) = t := ⟨_, rfl⟩
   obtain ⟨y, hy⟩ : ∃ y, es[i].2 = y := ⟨_, rfl⟩
   rw [ht, hy] at HT h1
   rw [ht]
   rw [hy] at y1
   have hin : (i : Int) < (n : Int) := by omega
   clear x0 ht hy
   go_wp2
   go_roundw
   case rel => exact ⟨i + 1, by omega, by go_num, by rw [HT.out]; go_num, by trivial⟩
   case measure => simp [intOf]; omega
  ·have ei : i = n := by omega
   subst ei
   have ht : es.take i = es := List.take_of_length_le (by rw [HN.out]; exact Nat.le_refl _)
   rw [ht]
   go_wp2
   go_ret
   exact ⟨rfl, rfl⟩
def sdE (kt : Nat → Int) (rt t : ByteArray) : Option (Nat × Nat) :=
 if (rdE kt t).isSome then rdE kt t else if rt = ⟨#[]⟩ then none else if (RS.on t).told.root = rt then none else some (9, 4)
def SdDid (kt : Nat → Int) (rt t : ByteArray) (w : World) (e : Ending) (w' : World) : Prop := Below w.heap.size w w' ∧ (∀ k p, sdE kt rt t = some (k, p) → RdErr k p e w') ∧ (sdE kt rt t = none → rdE kt t = none ∧ ∃ g, e = .returned (.tuple #[.pointer (some ⟨g, 0, none⟩), .nilIface]) ∧ VolAt (RS.on t).told (tRest t) w.heap.size g w')
theorem sread (kt : Nat → Int) (t rt : ByteArray) (w : World) (hG : Gd kt w) (ht : t.size ≤ 140737488351232) : Calls Tryz.prog 157 #[.string t, .string rt] w fun e w' => SdDid kt rt t w e w' := by
 have HR : Hid _ := lread kt t w hG ht
 clear hG ht
 go_enter Tryz.func157, Tryz.ntmps157
 go_wp2_with fail
 refine Calls.mono HR.out ?_
 rintro e w1 ⟨hB, h1, h2⟩
 cases hE : rdE kt t with
 | some kp =>
  obtain ⟨k, p⟩ := kp
  obtain ⟨q, rfl, hq⟩ := h1 k p hE
  have HB : Hid _ := hB
  have HQ : Hid _ := hq
  have HE : Hid (sdE kt rt t = some (k, p)) := by show sdE kt rt t = _; unfold sdE; rw [hE]; rfl
  clear h1 h2 hB hq
  go_wp2_with fail
  go_ret2
  exact ⟨HB.out, fun k' p' h' => (by rw [HE.out] at h'; cases h'; exact ⟨q, rfl, HQ.out⟩), fun h' => (by rw [HE.out] at h'; cases h')⟩
 | none =>
  obtain ⟨g, rfl, hV⟩ := h2 hE
  have HB : Hid _ := hB
  have HV : Hid _ := hV
  have HE : Hid (sdE kt rt t = if rt = ⟨#[]⟩ then none else if (RS.on t).told.root = rt then none else some (9, 4)) := by show sdE kt rt t = _; unfold sdE; rw [hE]; rfl
  have c0 : w1.cell? ⟨g, 0, none⟩ = some (.string (RS.on t).told.root) := by obtain ⟨aE, kE, q, hg, _⟩ := hV; exact cell_of_row _ _ _ _ 319 _ hg
  have HE0 : Hid _ := hE
  clear h1 h2 hB hV hE
  obtain ⟨ro, hro⟩ : ∃ x, (RS.on t).told.root = x := ⟨_, rfl⟩
  rw [hro] at c0 HE
  clear hro
  by_cases hrt : rt = ⟨#[]⟩
  ·rw [if_pos hrt] at HE
   have hq := texts_eq hrt
   go_wp2_with fail
   go_ret2
   exact ⟨HB.out, fun k' p' h' => (by rw [HE.out] at h'; cases h'), fun _ => ⟨HE0.out, g, rfl, HV.out⟩⟩
  ·rw [if_neg hrt] at HE
   have hq1 : ¬ rt.toList = [] := fun e => hrt (ByteArray.ext (by rw [ByteArray.toList_eq] at e; exact Array.toList_inj.1 e))
   have hq2 : rt.toList.isEmpty = false := by simpa using hq1
   by_cases hrr : ro = rt
   ·rw [if_pos hrr] at HE
    have hq3 := texts_eq hrr
    go_wp2_with fail
    go_ret2
    exact ⟨HB.out, fun k' p' h' => (by rw [HE.out] at h'; cases h'), fun _ => ⟨HE0.out, g, rfl, HV.out⟩⟩
   ·rw [if_neg hrr] at HE
    have hq3 := texts_ne hrr
    go_wp2_with fail
    refine Calls.mono (at_err 9 4 w1) ?_
    rintro e w2 ⟨q, rfl, hq, hB⟩
    have HQ : Hid _ := hq
    have HB2 : Hid _ := hB
    clear hq hB
    go_wp2_with fail
    go_ret2
    exact ⟨HB.out.trans (HB2.out.mono HB.out.size), fun k' p' h' => (by rw [HE.out] at h'; cases h'; exact ⟨q, rfl, HQ.out⟩), fun h' => (by rw [HE.out] at h'; cases h')⟩
theorem hstripes (b B n c K M C V : Nat) (a : Option Addr) (es : List (ByteArray × Nat)) (w : World) (c2 : w.cell? ⟨b, 2, none⟩ = some (.int .i64 K)) (c3 : w.cell? ⟨b, 3, none⟩ = some (.int .i64 M)) (c4 : w.cell? ⟨b, 4, none⟩ = some (.int .i64 C)) (c5 : w.cell? ⟨b, 5, none⟩ = some (.int .i64 V))
  (hc : w.cell? ⟨b, 6, none⟩ = some (.slice a n c)) (hn : es.length = n) (ho : w.ownsRow B 70 2 (.slice a n c) n (enV es)) (hs : ∀ i, lenE (es.take i) ≤ 100000) (hn2 : n ≤ 1000) (hK : 1 ≤ K) (hKM : K + M ≤ 255) (hC : 1 ≤ C) (hC2 : C ≤ 64) :
  Calls Tryz.prog 253 #[.pointer (some ⟨b, 0, none⟩)] w fun e w' => e = .returned (.int .i64 (nst (K * C) (lenE es) : Nat)) ∧ Below w.heap.size w w' := by
 have hz0 : 0 < K * C := Nat.mul_pos hK hC
 have hz1 : K * C ≤ 100000 := Nat.le_trans (Nat.mul_le_mul (show K ≤ 255 by omega) hC2) (by omega)
 have hle : lenE es ≤ 100000 := by have := hs es.length; rw [List.take_length] at this; exact this
 have hbl : b < w.heap.size := block_lt_of_cell c2
 have H1 : Hid (∀ X : World, Below w.heap.size w X → Calls Tryz.prog 260 #[.pointer (some ⟨b, 0, none⟩)] X fun e w' => e = .returned (.int .i64 (lenE es)) ∧ Below X.heap.size X w') := fun X hX => hlength b B n c a es X ((hX.cell (p := ⟨b, 6, none⟩) hbl).trans hc) hn (own_below ho hX) (fun i => Nat.le_trans (hs i) (by omega)) hn2
 have H2 : Hid (∀ X : World, Calls Tryz.prog 197 #[.agg #[.int .i64 K, .int .i64 M, .int .i64 C, .int .i64 V], .int .i64 (lenE es)] X fun e w' => e = .returned (.int .i64 (nst (K * C) (lenE es) : Nat)) ∧ Below X.heap.size X w') := fun X => countStripes_any K M C V (lenE es) (K * C) X rfl hz0 hz1 hle
 obtain ⟨cn, hcn⟩ : ∃ cn, nst (K * C) (lenE es) = cn := ⟨_, rfl⟩
 rw [hcn] at H2 ⊢
 clear hc hn ho hs
 go_enter Tryz.func253, Tryz.ntmps253
 go_wp2_with fail
 go_region_held3 (fun w2 => w2.cell? ⟨b, 2, none⟩ = some (.int .i64 K) ∧ w2.cell? ⟨b, 3, none⟩ = some (.int .i64 M) ∧ w2.cell? ⟨b, 4, none⟩ = some (.int .i64 C) ∧ w2.cell? ⟨b, 5, none⟩ = some (.int .i64 V)) (go_keep) (first | (go_at_call 260; refine Calls.mono (H1.out _ (by first | exact Below.refl _ _ | exact (Below.refl _ _).drew)) ?_; rintro e w1 ⟨rfl, hb1⟩; have hB1 : Below w.heap.size w w1 := (by first | exact hb1 | exact ((Below.refl _ _).drew).trans hb1); have q2 := (hB1.cell (p := ⟨b, 2, none⟩) hbl).trans c2; have q3 := (hB1.cell (p := ⟨b, 3, none⟩) hbl).trans c3; have q4 := (hB1.cell (p := ⟨b, 4, none⟩) hbl).trans c4; have q5 := (hB1.cell (p := ⟨b, 5, none⟩) hbl).trans c5) | (go_at_call 197; refine Calls.mono (H2.out _) ?_; rintro e w2 ⟨rfl, hb2⟩; have hB2 : Below w.heap.size w w2 := (hB1.trans (hb2.mono hB1.size)); have u2 := (hB2.cell (p := ⟨b, 2, none⟩) hbl).trans c2; have u3 := (hB2.cell (p := ⟨b, 3, none⟩) hbl).trans c3; have u4 := (hB2.cell (p := ⟨b, 4, none⟩) hbl).trans c4; have u5 := (hB2.cell (p := ⟨b, 5, none⟩) hbl).trans c5))
 have HB : Hid _ := hB2
 clear hB1 hB2 hb1 hb2 q2 q3 q4 q5 u2 u3 u4 u5
 go_wp2
 go_ret
 exact ⟨rfl, HB.out⟩
theorem hsame (a b : Nat) (ra la va rb lb vb : ByteArray) (w : World) (a0 : w.cell? ⟨a, 0, none⟩ = some (.string ra)) (a1 : w.cell? ⟨a, 1, none⟩ = some (.string la)) (a7 : w.cell? ⟨a, 7, none⟩ = some (.string va))
  (b0 : w.cell? ⟨b, 0, none⟩ = some (.string rb)) (b1 : w.cell? ⟨b, 1, none⟩ = some (.string lb)) (b7 : w.cell? ⟨b, 7, none⟩ = some (.string vb)) :
  Calls Tryz.prog 207 #[.pointer (some ⟨a, 0, none⟩), .pointer (some ⟨b, 0, none⟩)] w fun e w' => e = .returned (.bool (decide (ra = rb ∧ la = lb ∧ va = vb))) ∧ Below w.heap.size w w' := by
 by_cases h1 : ra = rb
 ·have q1 := texts_eq h1
  by_cases h2 : la = lb
  ·have q2 := texts_eq h2
   by_cases h3 : va = vb
   ·have q3 := texts_eq h3
    rw [decide_eq_true (show ra = rb ∧ la = lb ∧ va = vb from ⟨h1, h2, h3⟩)]
    clear h1 h2 h3
    go_enter Tryz.func207, Tryz.ntmps207
    go_wp2_with fail
    go_quiet (fail)
    go_wp2_with fail
    go_ret
    exact ⟨rfl, below_drewN (Below.refl _ _) _⟩
   ·have q3 := texts_ne h3
    rw [decide_eq_false (show ¬ (ra = rb ∧ la = lb ∧ va = vb) from fun h => h3 h.2.2)]
    clear h1 h2 h3
    go_enter Tryz.func207, Tryz.ntmps207
    go_wp2_with fail
    go_quiet (fail)
    go_wp2_with fail
    go_ret
    exact ⟨rfl, below_drewN (Below.refl _ _) _⟩
  ·have q2 := texts_ne h2
   rw [decide_eq_false (show ¬ (ra = rb ∧ la = lb ∧ va = vb) from fun h => h2 h.2.1)]
   clear h1 h2
   go_enter Tryz.func207, Tryz.ntmps207
   go_wp2_with fail
   go_quiet (fail)
   go_wp2_with fail
   go_ret
   exact ⟨rfl, below_drewN (Below.refl _ _) _⟩
 ·have q1 := texts_ne h1
  rw [decide_eq_false (show ¬ (ra = rb ∧ la = lb ∧ va = vb) from fun h => h1 h.1)]
  clear h1
  go_enter Tryz.func207, Tryz.ntmps207
  go_wp2_with fail
  go_quiet (fail)
  go_wp2_with fail
  go_ret
  exact ⟨rfl, below_drewN (Below.refl _ _) _⟩
theorem info4 : (Tryz.prog.info? 4).map (fun i => (i.zero, i.size, i.bytes)) = some (some (.bool false), 1, 1) := by kernel_rfl
theorem info232 : (Tryz.prog.info? 232).map (fun i => (i.zero, i.size, i.bytes)) = some (some (.pointer none), 1, 8) := by kernel_rfl
def stC (vh un rd bl fi : Value) : Array Value := #[vh, un, rd, bl, fi]
def boF : Nat → Value := fun _ => .bool false
def teF : Nat → Value := fun _ => .string ⟨#[]⟩
def piF : Nat → Value := fun _ => .pointer none
theorem sbegin (k g B K M C V num first : Nat) (aE : Option Addr) (kE : Nat) (es : List (ByteArray × Nat)) (root lst lv : ByteArray) (vB un : Value) (w : World)
  (hk : w.heap[k]? = some (.cells (stC (.pointer none) un (.slice none 0 0) (.slice none 0 0) (.slice none 0 0)) 224 (0, 0)))
  (hg : w.heap[g]? = some (.cells (volC root lst K M C V (.slice aE es.length kE) lv num first vB) 319 (0, 0))) (ho : w.ownsRow B 70 2 (.slice aE es.length kE) es.length (enV es)) (hl : es.length ≤ 16) (hsum : lenE es ≤ 4096)
  (hK : 1 ≤ K) (hKM : K + M ≤ 255) (hC : 1 ≤ C) (hC2 : C ≤ 64) (hV2 : V ≤ 16) (cn ns : Nat) (hcn : nst (K * C) (lenE es) * (K + M) = cn) (hcn2 : cn ≤ 512) (hns : nst (K * C) (lenE es) = ns) :
  Calls Tryz.prog 206 #[.pointer (some ⟨k, 0, none⟩), .pointer (some ⟨g, 0, none⟩)] w fun e w' => e = .returned (.tuple #[]) ∧ ∃ p q f, w.heap.size ≤ p ∧ w.heap.size ≤ q ∧ w.heap.size ≤ f ∧
   w'.heap[k]? = some (.cells (stC (.pointer (some ⟨g, 0, none⟩)) un (.slice (some ⟨p, 0, none⟩) V V) (.slice (some ⟨q, 0, none⟩) cn cn) (.slice (some ⟨f, 0, none⟩) ns ns)) 224 (0, 0)) ∧ Rw w' p V 4 boF ∧ Rw w' q cn 9 teF ∧ Rw w' f ns 232 piF ∧ Fr (fun j => j = k) w w' := by
 have hgl : g < w.heap.size := (Array.getElem?_eq_some_iff.1 hg).1
 have hkl : k < w.heap.size := (Array.getElem?_eq_some_iff.1 hk).1
 have hgk : g ≠ k := fun e => by have h1 := hg; rw [e, hk] at h1; simp at h1
 have hns2 : ns ≤ 4096 := by rw [← hns]; exact Nat.le_trans (nst_len _ _ (Nat.mul_pos hK hC)) hsum
 have hm1 := run_make_row' (P := Tryz.prog) 94 4 (.bool false) 1 Tryz.underlying94 info4 rfl .i64 .i64 V (by omega) (by omega)
 have hm2 := run_make_row' (P := Tryz.prog) 42 9 (.string ⟨#[]⟩) 16 Tryz.underlying42 info9 rfl .i64 .i64 cn (by omega) (by omega)
 have hm3 := run_make_row' (P := Tryz.prog) 222 232 (.pointer none) 8 Tryz.underlying222 info232 rfl .i64 .i64 ns (by omega) (by omega)
 have HGO : Hid (∀ X : World, Fr (fun j => j = k) w X → X.heap[g]? = some (.cells (volC root lst K M C V (.slice aE es.length kE) lv num first vB) 319 (0, 0)) ∧ X.ownsRow B 70 2 (.slice aE es.length kE) es.length (enV es)) := fun X hX => ⟨by rw [hX.old g hgl hgk]; exact hg, own_kept ho (fun q hq => hX.old q (own_lt ho q hq) (fun e => by
  obtain ⟨cur, hc⟩ := own_type ho q hq
  have h2 := hk
  rw [← e, hc] at h2; simp at h2))⟩
 have H1 : Hid (∀ X : World, Fr (fun j => j = k) w X → Calls Tryz.prog 252 #[.pointer (some ⟨g, 0, none⟩)] X fun e w' => e = .returned (.int .i64 cn) ∧ Below X.heap.size X w') := fun X hX => by
  obtain ⟨hx, hox⟩ := HGO.out X hX
  rw [← hcn]
  exact hcount g B es.length kE K M C V aE es X (cell_of_row _ _ _ _ 319 _ hx) (cell_of_row _ _ _ _ 319 _ hx) (cell_of_row _ _ _ _ 319 _ hx) (cell_of_row _ _ _ _ 319 _ hx) (cell_of_row _ _ _ _ 319 _ hx) rfl hox (fun i => Nat.le_trans (lenE_take_le _ i) (by omega)) (by omega) hK hKM hC hC2
 have H2 : Hid (∀ X : World, Fr (fun j => j = k) w X → Calls Tryz.prog 253 #[.pointer (some ⟨g, 0, none⟩)] X fun e w' => e = .returned (.int .i64 ns) ∧ Below X.heap.size X w') := fun X hX => by
  obtain ⟨hx, hox⟩ := HGO.out X hX
  rw [← hns]
  exact hstripes g B es.length kE K M C V aE es X (cell_of_row _ _ _ _ 319 _ hx) (cell_of_row _ _ _ _ 319 _ hx) (cell_of_row _ _ _ _ 319 _ hx) (cell_of_row _ _ _ _ 319 _ hx) (cell_of_row _ _ _ _ 319 _ hx) rfl hox (fun i => Nat.le_trans (lenE_take_le _ i) (by omega)) (by omega) hK hKM hC hC2
 obtain ⟨p, hp⟩ : ∃ p, w.heap.size = p := ⟨_, rfl⟩
 have a0 : w.cell? ⟨k, 0, none⟩ = some (.pointer none) := cell_of_row _ _ _ _ 224 _ hk
 have b0 := frozen_of_row w k 0 _ 224 hk
 obtain ⟨X0, hX0⟩ : ∃ X, w.setCell ⟨k, 0, none⟩ (.pointer (some ⟨g, 0, none⟩)) = X := ⟨_, rfl⟩
 have k0 : X0.heap[k]? = some (.cells (stC (.pointer (some ⟨g, 0, none⟩)) un (.slice none 0 0) (.slice none 0 0) (.slice none 0 0)) 224 (0, 0)) := by rw [← hX0]; exact set_heap _ _ _ _ _ _ _ hk
 have f0 : Fr (fun j => j = k) w X0 := by rw [← hX0]; exact (Fr.refl (fun j => j = k) w).set (g := k) (.inl rfl) _ _
 have s0 : X0.heap.size = p := by rw [← hX0, ← hp]; simp [World.setCell]
 have v5 : X0.cell? ⟨g, 5, none⟩ = some (.int .i64 V) := cell_of_row _ _ _ _ 319 _ (HGO.out X0 f0).1
 obtain ⟨X1, hX1⟩ : ∃ X, X0.alloc (.cells (madeCells #[.bool false] V) 4) = X := ⟨_, rfl⟩
 have p1 : Rw X1 p V 4 boF := by rw [← hX1, ← s0]; exact Rw.made X0 V 4 (.bool false)
 have b1 : Below X0.heap.size X0 X1 := by rw [← hX1]; exact (Below.refl _ _).alloc (Nat.le_refl _) _
 have k1 : X1.heap[k]? = _ := (b1.block k (by rw [s0, ← hp]; exact hkl)).trans k0
 have f1 := f0.thenBelow b1
 have a2 : X1.cell? ⟨k, 2, none⟩ = some (.slice none 0 0) := cell_of_row _ _ _ _ 224 _ k1
 have b2 := frozen_of_row X1 k 2 _ 224 k1
 obtain ⟨X2, hX2⟩ : ∃ X, X1.setCell ⟨k, 2, none⟩ (.slice (some ⟨p, 0, none⟩) V V) = X := ⟨_, rfl⟩
 have k2 : X2.heap[k]? = some (.cells (stC (.pointer (some ⟨g, 0, none⟩)) un (.slice (some ⟨p, 0, none⟩) V V) (.slice none 0 0) (.slice none 0 0)) 224 (0, 0)) := by rw [← hX2]; exact set_heap _ _ _ _ _ _ _ k1
 have f2 : Fr (fun j => j = k) w X2 := by rw [← hX2]; exact f1.set (.inl rfl) _ _
 have p2 : Rw X2 p V 4 boF := by rw [← hX2]; show (World.heap _)[p]? = _; rw [set_other _ _ _ _ _ (by omega)]; exact p1
 have HK2 : Hid _ := k2
 have HF2 : Hid _ := f2
 have HP2 : Hid (Rw X2 p V 4 boF) := p2
 have HH1 : Hid _ := H1.out X2 f2
 have HPW : Hid (w.heap.size = p) := hp
 clear hk hg ho k0 f0 p1 b1 k1 f1 k2 f2 p2 hcn hns H1
 go_enter Tryz.func206, Tryz.ntmps206
 go_wp2_with fail
 refine Calls.mono HH1.out ?_
 rintro e w3 ⟨rfl, hB3⟩
 clear hX0 a0 b0 v5 hX1 a2 b2 hX2 hm1 s0 HH1
 obtain ⟨q, hq⟩ : ∃ q, w3.heap.size = q := ⟨_, rfl⟩
 have k3 : w3.heap[k]? = _ := (hB3.block k (Array.getElem?_eq_some_iff.1 HK2.out).1).trans HK2.out
 have f3 := HF2.out.thenBelow hB3
 have p3 := Rw.below HP2.out hB3 (Rw.lt HP2.out)
 obtain ⟨X3, hX3⟩ : ∃ X, w3.alloc (.cells (madeCells #[.string ⟨#[]⟩] cn) 9) = X := ⟨_, rfl⟩
 have q4 : Rw X3 q cn 9 teF := by rw [← hX3, ← hq]; exact Rw.made w3 cn 9 (.string ⟨#[]⟩)
 have b4 : Below w3.heap.size w3 X3 := by rw [← hX3]; exact (Below.refl _ _).alloc (Nat.le_refl _) _
 have k4 : X3.heap[k]? = _ := (b4.block k (Array.getElem?_eq_some_iff.1 k3).1).trans k3
 have f4 := f3.thenBelow b4
 have p4 := p3.below b4 p3.lt
 have a4 : X3.cell? ⟨k, 3, none⟩ = some (.slice none 0 0) := cell_of_row _ _ _ _ 224 _ k4
 have c4 := frozen_of_row X3 k 3 _ 224 k4
 have hkq : k ≠ q := by have h1 := (Array.getElem?_eq_some_iff.1 k3).1; omega
 have hkp : k ≠ p := by have h1 := HPW.out; omega
 obtain ⟨X4, hX4⟩ : ∃ X, X3.setCell ⟨k, 3, none⟩ (.slice (some ⟨q, 0, none⟩) cn cn) = X := ⟨_, rfl⟩
 have k5 : X4.heap[k]? = some (.cells (stC (.pointer (some ⟨g, 0, none⟩)) un (.slice (some ⟨p, 0, none⟩) V V) (.slice (some ⟨q, 0, none⟩) cn cn) (.slice none 0 0)) 224 (0, 0)) := by rw [← hX4]; exact set_heap _ _ _ _ _ _ _ k4
 have f5 : Fr (fun j => j = k) w X4 := by rw [← hX4]; exact f4.set (.inl rfl) _ _
 have p5 : Rw X4 p V 4 boF := by rw [← hX4]; exact p4.other _ _ hkp.symm
 have q5 : Rw X4 q cn 9 teF := by rw [← hX4]; exact q4.other _ _ hkq.symm
 have HH2 : Hid _ := H2.out X4 f5
 have HQW : Hid (w.heap.size ≤ q) := by rw [← hq]; exact f3.size
 have HK5 : Hid _ := k5
 have HF5 : Hid _ := f5
 have HP5 : Hid (Rw X4 p V 4 boF) := p5
 have HQ5 : Hid (Rw X4 q cn 9 teF) := q5
 clear hB3 k3 f3 p3 q4 b4 k4 f4 p4 k5 f5 p5 q5 H2 HK2 HF2 HP2
 go_wp2_with fail
 refine Calls.mono HH2.out ?_
 rintro e w6 ⟨rfl, hB6⟩
 clear a4 c4 hX3 hX4 hq hm2 HH2
 obtain ⟨f, hf⟩ : ∃ f, w6.heap.size = f := ⟨_, rfl⟩
 have k6 : w6.heap[k]? = _ := (hB6.block k (Array.getElem?_eq_some_iff.1 HK5.out).1).trans HK5.out
 have f6 := HF5.out.thenBelow hB6
 have p6 := Rw.below HP5.out hB6 (Rw.lt HP5.out)
 have q6 := Rw.below HQ5.out hB6 (Rw.lt HQ5.out)
 obtain ⟨X6, hX6⟩ : ∃ X, w6.alloc (.cells (madeCells #[.pointer none] ns) 232) = X := ⟨_, rfl⟩
 have t7 : Rw X6 f ns 232 piF := by rw [← hX6, ← hf]; exact Rw.made w6 ns 232 (.pointer none)
 have b7 : Below w6.heap.size w6 X6 := by rw [← hX6]; exact (Below.refl _ _).alloc (Nat.le_refl _) _
 have k7 : X6.heap[k]? = _ := (b7.block k (Array.getElem?_eq_some_iff.1 k6).1).trans k6
 have f7 := f6.thenBelow b7
 have p7 := p6.below b7 p6.lt
 have q7 := q6.below b7 q6.lt
 have a7 : X6.cell? ⟨k, 4, none⟩ = some (.slice none 0 0) := cell_of_row _ _ _ _ 224 _ k7
 have c7 := frozen_of_row X6 k 4 _ 224 k7
 have hkf : k ≠ f := by have h1 := (Array.getElem?_eq_some_iff.1 k6).1; omega
 obtain ⟨X7, hX7⟩ : ∃ X, X6.setCell ⟨k, 4, none⟩ (.slice (some ⟨f, 0, none⟩) ns ns) = X := ⟨_, rfl⟩
 have HE : Hid (∃ p q f, w.heap.size ≤ p ∧ w.heap.size ≤ q ∧ w.heap.size ≤ f ∧ X7.heap[k]? = some (.cells (stC (.pointer (some ⟨g, 0, none⟩)) un (.slice (some ⟨p, 0, none⟩) V V) (.slice (some ⟨q, 0, none⟩) cn cn) (.slice (some ⟨f, 0, none⟩) ns ns)) 224 (0, 0)) ∧ Rw X7 p V 4 boF ∧ Rw X7 q cn 9 teF ∧ Rw X7 f ns 232 piF ∧ Fr (fun j => j = k) w X7) := by
  rw [← hX7]
  exact ⟨p, q, f, Nat.le_of_eq HPW.out, HQW.out, by rw [← hf]; exact f6.size, set_heap _ _ _ _ _ _ _ k7, p7.other _ _ hkp.symm, q7.other _ _ hkq.symm, t7.other _ _ hkf.symm, f7.set (.inl rfl) _ _⟩
 clear hB6 k6 f6 p6 q6 t7 b7 k7 f7 p7 q7 HK5 HF5 HP5 HQ5
 go_wp2_with fail
 go_end0
 exact ⟨rfl, by first | exact HE.out | (rw [hX7]; exact HE.out)⟩
def laid (bl : Nat → ByteArray) (first c : Nat) (S : Nat → ByteArray) : Nat → ByteArray := fun i => if first ≤ i ∧ i < first + c then S (i - first) else bl i
theorem copy_rows (X : World) (q cn first dl d qb c d2 : Nat) (bl S : Nat → ByteArray) (ty : TypeId) (hq : Rw X q cn 9 (tX bl)) (hb : Rw X qb c 9 (tX S)) (hfit : first + c ≤ cn) (hdl : c ≤ dl) :
  ∃ X', (Builtin.copy_ #[42, 42] ty #[.slice (some ⟨q, first, none⟩) dl d, .slice (some ⟨qb, 0, none⟩) c d2]).run Tryz.prog X = .ok (.int .i64 c) X' ∧ Rw X' q cn 9 (tX (laid bl first c S)) ∧ Fr (fun j => j = q) X X' := by
 have hlen : ((rowV c (tX S)).toList).length = c := by rw [Array.length_toList, rowV_size]
 have hcell : ∀ j v, (rowV c (tX S)).toList[j]? = some v → X.cell? ((⟨qb, 0, none⟩ : Addr).add j) = some v := fun j v hv => by
  rw [Array.getElem?_toList] at hv
  have e1 : (⟨qb, 0, none⟩ : Addr).add j = ⟨qb, j, none⟩ := by simp [Addr.add]; omega
  rw [e1, cell_of_row X qb j _ 9 _ hb]
  exact hv
 have hrun := run_copy_row (P := Tryz.prog) X 42 42 ty 9 q first dl d ⟨qb, 0, none⟩ c d2 (rowV cn (tX bl)) 9 (rowV c (tX S)).toList Tryz.underlying42 (by
  have h := info9
  cases hi : Tryz.prog.info? 9 with
  | none => rw [hi] at h; cases h
  | some i => rw [hi] at h; simp at h; simp [h.2.1]) hq (by rw [hlen]; exact (Nat.min_eq_left (by omega)).symm) hcell (by rw [hlen, rowV_size]; exact hfit) (fun v hv => by
   rw [Array.mem_toList_iff, Array.mem_iff_getElem?] at hv
   obtain ⟨i, hi⟩ := hv
   by_cases h : i < c
   ·rw [rowV_get c _ i h] at hi; cases hi; rfl
   ·rw [rowV_none c _ i h] at hi; cases hi)
 rw [hlen] at hrun
 refine ⟨_, hrun, ?_, ?_⟩
 ·show (World.heap _)[q]? = _
  rw [setRow_heap X q _ _ 9 (0, 0) hq]
  congr 2
  apply Array.ext_getElem?
  intro i
  rw [List.getElem?_toArray, List.getElem?_append, List.getElem?_append, List.length_append, List.length_take, Array.length_toList, rowV_size, hlen, Nat.min_eq_left (by omega)]
  by_cases hi : i < cn
  ·rw [rowV_get cn _ i hi]
   by_cases h1 : i < first
   ·rw [if_pos (by omega), if_pos h1, List.getElem?_take_of_lt h1, Array.getElem?_toList, rowV_get cn _ i hi]
    simp only [tX, laid]
    rw [if_neg (by omega)]
   ·by_cases h2 : i < first + c
    ·rw [if_pos h2, if_neg h1, Array.getElem?_toList, rowV_get c _ _ (by omega)]
     simp only [tX, laid]
     rw [if_pos (by omega)]
    ·rw [if_neg h2, List.getElem?_drop, Array.getElem?_toList, show first + c + (i - (first + c)) = i by omega, rowV_get cn _ i hi]
     simp only [tX, laid]
     rw [if_neg (by omega)]
  ·rw [rowV_none cn _ i hi, if_neg (by omega), List.getElem?_drop, Array.getElem?_toList, rowV_none cn _ _ (by omega)]
 ·exact ⟨by simp [World.setRow], fun j _ hj => setRow_other X q j _ hj, ⟨rfl, rfl, rfl⟩⟩
def tailT (q cn first : Nat) : Value := .slice (some (if cn = first then ⟨q, 0, none⟩ else ⟨q, first, none⟩)) (cn - first) (cn - first)
theorem size9 (W : World) : (sizeOf 9).run Tryz.prog W = .ok 1 W := by
 have h := info9
 cases hi : Tryz.prog.info? 9 with
 | none => rw [hi] at h; cases h
 | some i => rw [hi] at h; simp at h; simp [sizeOf, typeInfo, hi, h.2.1]
theorem tail_run (W : World) (q cn first : Nat) (hf : first ≤ cn) : (Instr.slice 42 (.slice (some ⟨q, 0, none⟩) cn cn) (some (.int .i64 first)) none none).run Tryz.prog W = .ok (tailT q cn first) W := by
 have hel : Tryz.prog.elem 42 = 9 := by simp [Program.elem, Tryz.underlying42]
 rw [run_slice_l W 42 _ _ _ (by rw [hel]; exact Tryz.underlying42) .i64 _ (by omega) (by omega), hel, size9]
 unfold tailT
 rcases Nat.lt_or_ge first cn with hlt | hge
 ·rw [if_neg (by omega)]
  cases first with
  | zero => simp [Result.andThen, sliced, Addr.add]
  | succ m => simp [Result.andThen, sliced, Addr.add]; omega
 ·have e : cn = first := by omega
  subst e
  simp [Result.andThen, sliced]
theorem copy_tail (X : World) (q cn first qb c d2 : Nat) (bl S : Nat → ByteArray) (ty : TypeId) (hq : Rw X q cn 9 (tX bl)) (hb : Rw X qb c 9 (tX S)) (hfit : first + c ≤ cn) :
  ∃ X', (Builtin.copy_ #[42, 42] ty #[tailT q cn first, .slice (some ⟨qb, 0, none⟩) c d2]).run Tryz.prog X = .ok (.int .i64 c) X' ∧ Rw X' q cn 9 (tX (laid bl first c S)) ∧ Fr (fun j => j = q) X X' := by
 unfold tailT
 by_cases e : cn = first
 ·obtain ⟨X', h1, h2, h3⟩ := copy_rows X q cn 0 (cn - first) (cn - first) qb c d2 bl S ty hq hb (by omega) (by omega)
  rw [if_pos e]
  refine ⟨X', h1, h2.to (fun j _ => ?_), h3⟩
  unfold tX laid
  rw [if_neg (by omega), if_neg (by omega)]
 ·rw [if_neg e]
  exact copy_rows X q cn first (cn - first) (cn - first) qb c d2 bl S ty hq hb hfit (by omega)
theorem step_copy {ops : Array Oper} {o : Oper} {a : Act} {w : World} {K : Act → World → Prop} {Q : Exit → Act → World → Prop} {E : Prop} (hg : o.guard = none) (x y : Operand) (t : TypeId) (hop : o.op = .call { callee := .builtin .copy, args := #[x, y], argTypes := #[t, t] })
  (u v r : Value) (hu : a.eval x = u) (hv : a.eval y = v) (w' : World) (hr : (Builtin.copy_ #[t, t] o.type #[u, v]).run Tryz.prog w = .ok r w') (hK : K (a.put o.dst r) w') : if Region.wanted o (yielded ops a.tmps) = true then Oper.wp Tryz.prog o a w K Q else E := by
 rw [if_pos (show Region.wanted o (yielded ops a.tmps) = true by simp [Region.wanted, hg])]
 unfold Oper.wp
 simp [execOp, hop, resolve, invoke, builtin, hu, hv, hr, Result.andThen]
 exact hK
end Go.Proofs.YtadinjaocnlglaaGreatDoor
