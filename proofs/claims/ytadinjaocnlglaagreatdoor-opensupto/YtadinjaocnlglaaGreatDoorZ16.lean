/-
  The walks of fault.At, vaultref.at, fault.Marks.
  The walks of vault.Faults, sameMarks, told.
  Errors that wrap others: Marks, Faults and told of a whole chain.
  Faults, sameMarks, told of a chain of errors; vaultref's at and over.
-/
import Derived.Test.YtadinjaocnlglaaGreatDoorZ15
import Derived.Test.YtadinjaocnlglaaGreatDoorZ04
import Derived.ArgAppend
import Derived.BigRegion
import Derived.BigQuiet
import Derived.Deep.QuietTactic
import Derived.Deep.RegionWith
import Derived.Deep.RegionHeld3
import Derived.Deep.RegionLawGrows
import Derived.Test.YtadinjaocnlglaaGreatDoorZ08
namespace Go.Proofs.YtadinjaocnlglaaGreatDoor
open Go.RowKit
set_option maxHeartbeats 400000
theorem At_any (k i : Int) (w : World) :
  Calls Tryz.prog 151 #[.int .i64 k, .int .i64 i] w fun e w' => e = .returned (.iface 305 (.pointer (some ⟨w.heap.size, 0, none⟩))) ∧ w' = w.alloc (.cells #[.int .i64 k, .int .i64 i, .nilIface] 307) := by
 go_enter Tryz.func151, Tryz.ntmps151
 go_wp2
 go_ret
 exact ⟨rfl, rfl⟩
theorem at_any (k i : Int) (w : World) :
  Calls Tryz.prog 91 #[.int .i64 k, .int .i64 i] w fun e w' => e = .returned (.slice (some ⟨w.heap.size, 0, none⟩) 1 1) ∧ w' = w.alloc (.cells #[.int .i64 k, .int .i64 i] 250) := by
 go_enter Tryz.func91, Tryz.ntmps91
 go_wp2
 go_ret
 exact ⟨rfl, rfl⟩
theorem info93 : (Tryz.prog.info? 250).map (fun i => (i.zero, i.size, i.bytes)) = some (some (.agg #[.int .i64 0, .int .i64 0]), 2, 16) := by kernel_rfl
theorem two_one (a b : Int) : ∀ u ∈ [Value.int .i64 a, Value.int .i64 b], u.oneCell' = true := by
 intro u hu; simp at hu; rcases hu with rfl | rfl <;> rfl
theorem two_new (w : World) (a b : Value) (t : TypeId) : ∀ j u, [a, b][j]? = some u → (w.alloc (.cells #[a, b] t)).cell? ((⟨w.heap.size, 0, none⟩ : Addr).add j) = some u := by
 intro j u hj
 have e : ((⟨w.heap.size, 0, none⟩ : Addr).add j) = ⟨w.heap.size, j, none⟩ := by simp [Addr.add]; exact fun h => h.symm
 rw [e, cell_of_row _ _ _ _ t _ (heap_alloc_new w _)]
 match j with
 | 0 => exact hj
 | 1 => exact hj
 | j + 2 => simp at hj
set_option maxRecDepth 100000
set_option maxHeartbeats 4000000
def ErrAt (w : World) : Value → List (Int × Int) → Prop
 | v, [] => v = .nilIface
 | v, p :: l => ∃ e u, v = .iface 305 (.pointer (some ⟨e, 0, none⟩)) ∧ w.heap[e]? = some (.cells #[.int .i64 p.1, .int .i64 p.2, u] 307 (0, 0)) ∧ ErrAt w u l
theorem ErrAt.kept {w w' : World} (hk : ∀ (e : Nat) (cs : Array Value), w.heap[e]? = some (.cells cs 307 (0, 0)) → w'.heap[e]? = w.heap[e]?) : ∀ {l : List (Int × Int)} {v : Value}, ErrAt w v l → ErrAt w' v l
 | [], _, h => h
 | _ :: _, _, ⟨e, u, h1, h2, h3⟩ => ⟨e, u, h1, (hk e _ h2).trans h2, ErrAt.kept hk h3⟩
theorem ErrAt.below {w w' : World} {l : List (Int × Int)} {v : Value} (h : ErrAt w v l) (hb : Below w.heap.size w w') : ErrAt w' v l :=
 h.kept fun e _ he => hb.block e (Array.getElem?_eq_some_iff.1 he).1
theorem ErrAt.uniq {w : World} : ∀ {l l' : List (Int × Int)} {v : Value}, ErrAt w v l → ErrAt w v l' → l = l'
 | [], [], _, _, _ => rfl
 | [], p :: l, v, h, ⟨e, u, h1, _⟩ => by rw [show v = .nilIface from h] at h1; cases h1
 | p :: l, [], v, ⟨e, u, h1, _⟩, h => by rw [show v = .nilIface from h] at h1; cases h1
 | p :: l, q :: l', v, ⟨e, u, h1, h2, h3⟩, ⟨e', u', h1', h2', h3'⟩ => by
  rw [h1] at h1'
  simp only [Value.iface.injEq, Value.pointer.injEq, Option.some.injEq, Addr.mk.injEq, true_and, and_true] at h1'
  subst h1'
  rw [h2] at h2'
  simp only [Option.some.injEq, Obj.cells.injEq, Array.mk.injEq, List.cons.injEq, Value.int.injEq, true_and, and_true] at h2'
  obtain ⟨a1, a2, a3⟩ := h2'
  subst a3
  rw [ErrAt.uniq h3 h3', Prod.ext a1 a2]
theorem ch_len : ∃ μ : World → Value → Nat, ∀ w v l, ErrAt w v l → μ w v = l.length := by
 classical
 refine ⟨fun w v => if h : ∃ l, ErrAt w v l then h.choose.length else 0, fun w v l h => ?_⟩
 have h' : ∃ l, ErrAt w v l := ⟨l, h⟩
 simp only [dif_pos h']
 rw [ErrAt.uniq h'.choose_spec h]
def mkL (l : List (Int × Int)) : List Value := l.flatMap fun p => [.int .i64 p.1, .int .i64 p.2]
theorem mkL_snoc (l : List (Int × Int)) (p : Int × Int) : mkL (l ++ [p]) = mkL l ++ [.int .i64 p.1, .int .i64 p.2] := by simp [mkL]
theorem mkL_get : ∀ (l : List (Int × Int)) (i : Nat) (h : i < l.length), (mkL l)[i * 2]? = some (.int .i64 l[i].1) ∧ (mkL l)[i * 2 + 1]? = some (.int .i64 l[i].2)
 | [], i, h => by simp at h
 | p :: l, 0, _ => by simp [mkL]
 | p :: l, i + 1, h => by
  have ih := mkL_get l i (by simpa using h)
  have e1 : (i + 1) * 2 = i * 2 + 2 := by omega
  have e2 : mkL (p :: l) = .int .i64 p.1 :: .int .i64 p.2 :: mkL l := by simp [mkL]
  rw [e1, e2]
  simpa using ih
theorem marks_any (l : List (Int × Int)) (v : Value) (w : World) (hg : w.cell? ⟨0, 0, none⟩ = some (.iface 376 (.agg #[.pointer (some ⟨7, 63, none⟩)]))) (hE : ErrAt w v l) (hl : l.length ≤ 1000) :
  Calls Tryz.prog 161 #[v] w fun ev w' => ∃ a c, ev = .returned (.slice a l.length c) ∧ w'.ownsRow w.heap.size 250 2 (.slice a l.length c) l.length (mkL l) ∧ Below w.heap.size w w' := by
 obtain ⟨μ, hμ⟩ := ch_len
 have HM : Hid _ := hμ
 have hlt : 0 < w.heap.size := block_lt_of_cell hg
 obtain ⟨i0, hi93, hz0, hz1, hz2⟩ := info_parts info93
 have HE : Hid _ := hE
 have HGE : Hid _ := hg
 have HL : Hid _ := hl
 clear hE hg hl hμ
 go_enter Tryz.func161, Tryz.ntmps161
 go_wp2
 go_loopw [0, 3] (fun ev mv wr => ∃ (dn rs : List (Int × Int)) (old vv mm : Value), vv = ev ∧ mm = mv ∧ dn ++ rs = l ∧ ErrAt w vv rs ∧ wr.ownsRow w.heap.size 250 2 mm dn.length (mkL dn) ∧ wr.heap[w.heap.size + 1]? = some (.cells #[old] 305 (0, 0)) ∧ Below w.heap.size w wr) (fun ev _ _ => μ w ev)
 case atStart =>
  refine ⟨[], l, .pointer none, _, _, rfl, rfl, rfl, HE.out, ?_, ?_, ((Below.refl _ _).alloc (Nat.le_refl _) _).alloc (by simp) _⟩
  ·refine ⟨rfl, .inr ⟨w.heap.size, 0, #[], rfl, Nat.le_refl _, ?_, Nat.le_refl _, by simp, rfl, rfl⟩⟩
   rw [heap_alloc_old _ _ (by simp)]; exact heap_alloc_new _ _
  ·have := heap_alloc_new (w.alloc (Obj.cells #[] 250)) (Obj.cells #[Value.pointer none] 305)
   simpa using this
 case round =>
  obtain ⟨dn, rs, old, vv, mm, rfl, rfl, hd, hev, hown, htgt, hb⟩ := hrel
  cases rs with
  | nil =>
   have e : vv = .nilIface := hev
   subst e
   have hd' : dn = l := by simpa using hd
   subst hd'
   obtain ⟨a, c, hs⟩ := own_shape hown
   subst hs
   have HO : Hid _ := hown
   have HB : Hid _ := hb
   clear hown hb htgt hd hev
   go_wp2_with fail
   refine (as_nil _ _).mono ?_
   rintro e w' ⟨rfl, rfl⟩
   go_wp2
   go_ret
   exact ⟨a, c, rfl, HO.out, HB.out⟩
  | cons p rs =>
   obtain ⟨e, u, he1, he2, he3⟩ := hev
   subst he1
   have hel : e < w.heap.size := (Array.getElem?_eq_some_iff.1 he2).1
   obtain ⟨a, c, hs⟩ := own_shape hown
   subst hs
   have HO : Hid (wr.ownsRow w.heap.size 250 2 (.slice a dn.length c) dn.length (mkL dn)) := hown
   have HB : Hid (Below w.heap.size w wr) := hb
   have HU : Hid (ErrAt w u rs) := he3
   have HH : Hid (w.heap[e]? = some (.cells #[.int .i64 p.1, .int .i64 p.2, u] 307 (0, 0))) := he2
   have HD : Hid (dn ++ p :: rs = l) := hd
   have hg1 : wr.cell? ⟨0, 0, none⟩ = some (.iface 376 (.agg #[.pointer (some ⟨7, 63, none⟩)])) := (hb.cell (p := ⟨0, 0, none⟩) hlt).trans HGE.out
   have ht1 : wr.cell? ⟨w.heap.size + 1, 0, none⟩ = some old := cell_of_row _ _ _ _ 305 _ htgt
   have hf1 : wr.frozen? ⟨w.heap.size + 1, 0, none⟩ = false := frozen_of_row _ _ _ _ 305 htgt
   have HT : Hid (wr.heap[w.heap.size + 1]? = some (.cells #[old] 305 (0, 0))) := htgt
   have hz1' : w.heap.size + 1 < wr.heap.size := (Array.getElem?_eq_some_iff.1 htgt).1
   have hdl : dn.length + 1 ≤ 1000 := by have := congrArg List.length HD.out; simp at this; have := HL.out; omega
   clear hb htgt hown hd he2 he3
   go_wp2_with fail
   refine (as_hit ⟨e, 0, none⟩ ⟨w.heap.size + 1, 0, none⟩ old wr hg1 ht1 hf1).mono ?_
   rintro ev2 w2 ⟨rfl, hw2⟩
   have hr : Below wr.heap.size wr (asD wr ⟨w.heap.size + 1, 0, none⟩ ⟨e, 0, none⟩) := ((((Below.refl _ _).alloc (Nat.le_refl _) _).alloc (by simp) _).alloc (by simp; omega) _).alloc (by simp; omega) _
   obtain ⟨W, hW⟩ : ∃ W, asD wr ⟨w.heap.size + 1, 0, none⟩ ⟨e, 0, none⟩ = W := ⟨_, rfl⟩
   rw [hW] at hw2 hr
   have htW : W.heap[w.heap.size + 1]? = some (.cells #[old] 305 (0, 0)) := by rw [hr.block _ hz1']; exact HT.out
   have HT2 : Hid (w2.heap[w.heap.size + 1]? = some (.cells #[.pointer (some ⟨e, 0, none⟩)] 305 (0, 0))) := by
    show w2.heap[w.heap.size + 1]? = _
    rw [hw2]; exact heap_setCell_same W (w.heap.size + 1) 0 _ 305 _ htW
   have HB2 : Hid (Below w.heap.size w w2) := by
    show Below _ _ _
    rw [hw2]; exact (HB.out.trans (hr.mono HB.out.size)).setCell (by simp) _
   have HO2 : Hid (w2.ownsRow w.heap.size 250 2 (.slice a dn.length c) dn.length (mkL dn)) := by
    show World.ownsRow _ _ _ _ _ _ _
    rw [hw2]
    refine ownsRow_setCell_other (own_below HO.out hr) (fun e' => ?_) _
    obtain ⟨cur, hc⟩ := own_type (own_below HO.out hr) _ e'
    rw [htW] at hc; simp at hc
   clear hw2 hW hr htW hg1 ht1 hf1 HT HO
   have hrow : w2.heap[e]? = some (.cells #[.int .i64 p.1, .int .i64 p.2, u] 307 (0, 0)) := by rw [HB2.out.block e hel]; exact HH.out
   have ce0 : w2.cell? ⟨e, 0, none⟩ = some (.int .i64 p.1) := cell_of_row _ _ _ _ 307 _ hrow
   have ce1 : w2.cell? ⟨e, 1, none⟩ = some (.int .i64 p.2) := cell_of_row _ _ _ _ 307 _ hrow
   have ce2 : w2.cell? ⟨e, 2, none⟩ = some u := cell_of_row _ _ _ _ 307 _ hrow
   have c1 : w2.cell? ⟨w.heap.size + 1, 0, none⟩ = some (.pointer (some ⟨e, 0, none⟩)) := cell_of_row _ _ _ _ 305 _ HT2.out
   have hws2 : w.heap.size ≤ w2.heap.size := HB2.out.size
   have hel2 : e < w2.heap.size := by omega
   have htl2 : w.heap.size + 1 < w2.heap.size := (Array.getElem?_eq_some_iff.1 HT2.out).1
   have hm1 : dn.length + 1 ≤ maxLen := by unfold maxLen; omega
   have hm2 : (dn.length + 1) * 16 ≤ 140737488355328 := by omega
   have hne1 := World.new_ne w2 _ c1
   have hne2 := World.new_ne w2 _ ce0
   obtain ⟨k, i⟩ := p
   clear hrow
   go_wp2
   go_region_held3 (fun w' => w'.cell? ⟨w.heap.size + 1, 0, none⟩ = some (.pointer (some ⟨e, 0, none⟩)) ∧ w'.cell? ⟨e, 0, none⟩ = some (.int .i64 k) ∧ w'.cell? ⟨e, 1, none⟩ = some (.int .i64 i)) (go_keep) (first | (refine step_append_own rfl (.tmp 9) (.tmp 19) 122 rfl 250 i0 (.agg #[.int .i64 0, .int .i64 0]) 2 16 Tryz.underlying122 hi93 hz0 hz1 hz2 rfl (by decide) w.heap.size (.slice a dn.length c) dn.length (mkL dn) (by simp [Act.eval]) (by exact (HO2.out.alloc _).drew) ⟨w2.heap.size, 0, none⟩ 1 1 [.int .i64 k, .int .i64 i] (by simp [Act.eval]) rfl (by exact two_new _ _ _ _) (two_one _ _) hm1 hm2 (by show w.heap.size ≤ (w2.alloc _).heap.size; simp; omega) ?_; intro v3 w3 hown3 hgrow3; have hB3 : Below w.heap.size w2 w3 := (((Below.refl _ _).alloc hws2 _).drew).grown hgrow3 (by show w.heap.size ≤ (w2.alloc _).heap.size; simp; omega) (fun q hq => own_ge HO2.out q hq); have hT3 : w3.heap[w.heap.size + 1]? = some (.cells #[.pointer (some ⟨e, 0, none⟩)] 305 (0, 0)) := (grown_block hgrow3 (w.heap.size + 1) htl2 (fun q hq e' => by obtain ⟨cur, hc⟩ := own_type HO2.out q hq; rw [e', HT2.out] at hc; simp at hc)).trans HT2.out; have d1 : w3.cell? ⟨w.heap.size + 1, 0, none⟩ = some (.pointer (some ⟨e, 0, none⟩)) := cell_of_row _ _ _ _ 305 _ hT3; have d2 := (hB3.cell (p := ⟨e, 0, none⟩) hel).trans ce0; have d3 := (hB3.cell (p := ⟨e, 1, none⟩) hel).trans ce1))
   have d4 := (hB3.cell (p := ⟨e, 2, none⟩) hel).trans ce2
   have HO3 : Hid (w3.ownsRow w.heap.size 250 2 v3 (dn.length + 1) (mkL dn ++ [.int .i64 k, .int .i64 i])) := hown3
   have HB3 : Hid (Below w.heap.size w w3) := HB2.out.trans hB3
   have HT3 : Hid (w3.heap[w.heap.size + 1]? = some (.cells #[.pointer (some ⟨e, 0, none⟩)] 305 (0, 0))) := hT3
   clear hown3 hgrow3 hB3 hT3 c1 ce0 ce1 ce2 hne1 hne2
   go_wp2
   go_roundw
   case rel =>
    refine ⟨dn ++ [(k, i)], rs, _, _, _, rfl, rfl, by rw [← HD.out]; simp, HU.out, ?_, HT3.out, HB3.out⟩
    rw [mkL_snoc]
    have := HO3.out
    simpa using this
   case measure =>
    rw [HM.out w u rs HU.out, HM.out w _ ((k, i) :: rs) ⟨e, u, rfl, HH.out, HU.out⟩]
    simp
theorem faults_any (l : List (Int × Int)) (v : Value) (w : World) (hg : w.cell? ⟨0, 0, none⟩ = some (.iface 376 (.agg #[.pointer (some ⟨7, 63, none⟩)]))) (hE : ErrAt w v l) (hl : l.length ≤ 1000) :
  Calls Tryz.prog 107 #[v] w fun ev w' => ∃ a c, ev = .returned (.slice a l.length c) ∧ w'.ownsRow w.heap.size 250 2 (.slice a l.length c) l.length (mkL l) ∧ Below w.heap.size w w' := by
 have H : Hid _ := marks_any l v w hg hE hl
 clear hg hE hl
 go_enter Tryz.func107, Tryz.ntmps107
 go_wp2_with fail
 refine Calls.mono H.out ?_
 rintro e w1 ⟨a, c, rfl, h1, h2⟩
 go_wp2
 go_ret
 exact ⟨a, c, rfl, h1, h2⟩
theorem mk_cells {w : World} {B c : Nat} {a : Option Addr} {l : List (Int × Int)} (h : w.ownsRow B 250 2 (.slice a l.length c) l.length (mkL l)) (i : Nat) (hi : i < l.length) :
  ∃ g, a = some ⟨g, 0, none⟩ ∧ g < w.heap.size ∧ w.cell? ⟨g, i * 2, none⟩ = some (.int .i64 l[i].1) ∧ w.cell? ⟨g, i * 2 + 1, none⟩ = some (.int .i64 l[i].2) := by
 rcases h.2 with ⟨_, h'⟩ | ⟨g, cap, cur, hv, hb, hh, _⟩
 ·omega
 ·obtain rfl : a = some ⟨g, 0, none⟩ := by simp at hv; exact hv.1
  have h1 := h.cellAt (i * 2) (by omega)
  have h2 := h.cellAt (i * 2 + 1) (by omega)
  exact ⟨g, rfl, (Array.getElem?_eq_some_iff.1 hh).1, h1.trans (mkL_get l i hi).1, h2.trans (mkL_get l i hi).2⟩
theorem sameM_any (l : List (Int × Int)) (a1 a2 : Option Addr) (c1 c2 B1 B2 : Nat) (w : World) (h1 : w.ownsRow B1 250 2 (.slice a1 l.length c1) l.length (mkL l)) (h2 : w.ownsRow B2 250 2 (.slice a2 l.length c2) l.length (mkL l)) (hl : l.length ≤ 1000) :
  Calls Tryz.prog 108 #[.slice a1 l.length c1, .slice a2 l.length c2] w fun e w' => e = .returned (.bool true) ∧ ∃ q, w' = w.drewN q := by
 have H1 : Hid _ := fun i hi => mk_cells h1 i hi
 have H2 : Hid _ := fun i hi => mk_cells h2 i hi
 obtain ⟨n, hn⟩ : ∃ n, l.length = n := ⟨_, rfl⟩
 clear h1 h2
 rw [hn] at hl ⊢
 have HN : Hid _ := hn
 clear hn
 go_enter Tryz.func108, Tryz.ntmps108
 go_wp2
 go_loopw [5] (fun iv wr => ∃ i q : Nat, i ≤ n ∧ iv = .int .i64 i ∧ wr = w.drewN q) (fun iv _ => n - (intOf iv).toNat)
 case atStart => exact ⟨0, 0, by omega, rfl, rfl⟩
 case round =>
  obtain ⟨i, q, hi, rfl, hq⟩ := hrel
  by_cases hlt : i < n
  ·have hlt' : i < l.length := by rw [HN.out]; exact hlt
   obtain ⟨g1, ha1, _, x1, x2⟩ := H1.out i hlt'
   obtain ⟨g2, ha2, _, y1, y2⟩ := H2.out i hlt'
   subst ha1
   subst ha2
   obtain ⟨k, hk⟩ : ∃ k, l[i].1 = k := ⟨_, rfl⟩
   obtain ⟨m, hm⟩ : ∃ m, l[i].2 = m := ⟨_, rfl⟩
   rw [hk] at x1 y1
   rw [hm] at x2 y2
   have e1 : wr.cell? ⟨g1, i * 2, none⟩ = some (.int .i64 k) := by rw [hq]; exact x1
   have e2 : wr.cell? ⟨g1, i * 2 + 1, none⟩ = some (.int .i64 m) := by rw [hq]; exact x2
   have e3 : wr.cell? ⟨g2, i * 2, none⟩ = some (.int .i64 k) := by rw [hq]; exact y1
   have e4 : wr.cell? ⟨g2, i * 2 + 1, none⟩ = some (.int .i64 m) := by rw [hq]; exact y2
   have HQ : Hid _ := hq
   clear hq hk hm x1 x2 y1 y2
   have hi0' : (0 : Int) ≤ (i : Int) := by omega
   have hin' : (i : Int) < (n : Int) := by omega
   go_wp2
   go_quiet (fail)
   go_wp2
   go_roundw
   case rel => exact ⟨i + 1, q + nq, by omega, by go_num, by rw [HQ.out]; simp [World.drewN, Nat.add_assoc]⟩
   case measure => simp [intOf]; omega
  ·go_wp2
   go_ret
   exact ⟨rfl, q, rfl⟩
theorem toldE_any (l : List (Int × Int)) (e v : Value) (B : Nat) (w : World) (hg : w.cell? ⟨0, 0, none⟩ = some (.iface 376 (.agg #[.pointer (some ⟨7, 63, none⟩)]))) (hE : ErrAt w e l) (hv : w.ownsRow B 250 2 v l.length (mkL l)) (hl : l.length ≤ 1000) :
  Calls Tryz.prog 64 #[e, v] w fun ev w' => ev = .returned (.bool true) ∧ Below w.heap.size w w' := by
 have H : Hid _ := faults_any l e w hg hE hl
 obtain ⟨a, c, hs⟩ := own_shape hv
 subst hs
 have HV : Hid _ := hv
 have HL : Hid _ := hl
 have hsh : (l = [] ∧ e = .nilIface) ∨ (l ≠ [] ∧ ∃ g, e = .iface 305 (.pointer (some ⟨g, 0, none⟩))) := by
  cases l with
  | nil => exact .inl ⟨rfl, hE⟩
  | cons p r => obtain ⟨g, u, h1, _⟩ := hE; exact .inr ⟨by simp, g, h1⟩
 obtain ⟨n, hn⟩ : ∃ n, l.length = n := ⟨_, rfl⟩
 have hln : (l = [] → n = 0) ∧ (l ≠ [] → n ≠ 0) := by rw [← hn]; exact ⟨fun h => by rw [h]; rfl, fun h e => h (List.length_eq_zero_iff.1 e)⟩
 have HN : Hid _ := hn
 clear hg hE hv hl
 rcases hsh with ⟨h0, rfl⟩ | ⟨h0, g, rfl⟩
 ·have hn0 := hln.1 h0
  subst hn0
  go_enter Tryz.func64, Tryz.ntmps64
  go_wp2_with fail
  refine Calls.mono H.out ?_
  rintro e w1 ⟨a1, c1, rfl, ho, hb⟩
  have HB : Hid _ := hb
  have HS : Hid _ := sameM_any l a1 a c1 c _ _ w1 ho (own_below HV.out hb) HL.out
  clear ho hb
  rw [hn] at HS ⊢
  clear hn
  go_wp2_with fail
  refine Calls.mono HS.out ?_
  rintro e w2 ⟨rfl, q, rfl⟩
  go_wp2
  go_ret
  exact ⟨rfl, below_drewN HB.out q⟩
 ·have hn0 := hln.2 h0
  have hnb : ((n : Int) == 0) = false := by simp; omega
  go_enter Tryz.func64, Tryz.ntmps64
  go_wp2_with fail
  refine Calls.mono H.out ?_
  rintro e w1 ⟨a1, c1, rfl, ho, hb⟩
  have HB : Hid _ := hb
  have HS : Hid _ := sameM_any l a1 a c1 c _ _ w1 ho (own_below HV.out hb) HL.out
  clear ho hb
  rw [hn] at HS ⊢
  clear hn
  go_wp2_with fail
  refine Calls.mono HS.out ?_
  rintro e w2 ⟨rfl, q, rfl⟩
  go_wp2
  go_ret
  exact ⟨rfl, below_drewN HB.out q⟩
theorem at_own (k i : Int) (w : World) : Calls Tryz.prog 91 #[.int .i64 k, .int .i64 i] w fun e w' => ∃ v, e = .returned v ∧ w'.ownsRow w.heap.size 250 2 v 1 (mkL [(k, i)]) ∧ Below w.heap.size w w' := by
 refine (at_any k i w).mono ?_
 rintro e w' ⟨rfl, rfl⟩
 refine ⟨_, rfl, ⟨rfl, .inr ⟨w.heap.size, 1, #[.int .i64 k, .int .i64 i], rfl, Nat.le_refl _, heap_alloc_new _ _, Nat.le_refl _, by unfold maxLen; omega, rfl, rfl⟩⟩, (Below.refl _ _).alloc (Nat.le_refl _) _⟩
theorem rover_any (k i : Int) (l : List (Int × Int)) (v : Value) (B : Nat) (w : World) (hv : w.ownsRow B 250 2 v l.length (mkL l)) (hl : l.length ≤ 1000) :
  Calls Tryz.prog 105 #[.int .i64 k, .int .i64 i, v] w fun e w' => ∃ v', e = .returned v' ∧ w'.ownsRow w.heap.size 250 2 v' (l.length + 1) (mkL ((k, i) :: l)) ∧ Below w.heap.size w w' := by
 have HA : Hid _ := at_own k i w
 obtain ⟨a, c, hs⟩ := own_shape hv
 subst hs
 have HV : Hid _ := hv
 have HC : Hid _ := fun j hj => mk_cells hv j hj
 obtain ⟨i0, hi93, hz0, hz1, hz2⟩ := info_parts info93
 obtain ⟨n, hn⟩ : ∃ n, l.length = n := ⟨_, rfl⟩
 have HN : Hid _ := hn
 rw [hn] at hl ⊢
 clear hv hn
 go_enter Tryz.func105, Tryz.ntmps105
 go_wp2_with fail
 refine Calls.mono HA.out ?_
 rintro e w1 ⟨v1, rfl, ho1, hb1⟩
 have HO1 : Hid _ := ho1
 have HB1 : Hid _ := hb1
 clear ho1 hb1 HA
 go_wp2
 go_loopw [7, 8] (fun ov jv wr => ∃ j : Nat, j ≤ n ∧ jv = .int .i64 j ∧ wr.ownsRow w.heap.size 250 2 ov (j + 1) (mkL ((k, i) :: l.take j)) ∧ Below w.heap.size w wr) (fun _ jv _ => n - (intOf jv).toNat)
 case atStart => exact ⟨0, by omega, rfl, by rw [List.take_zero]; exact HO1.out, HB1.out⟩
 case round =>
  obtain ⟨j, hj, rfl, ho, hb⟩ := hrel
  obtain ⟨ao, co, hs⟩ := own_shape ho
  subst hs
  have HO : Hid (wr.ownsRow w.heap.size 250 2 (.slice ao (j + 1) co) (j + 1) (mkL ((k, i) :: l.take j))) := ho
  have HB : Hid (Below w.heap.size w wr) := hb
  by_cases hlt : j < n
  ·have hlt' : j < l.length := by rw [HN.out]; exact hlt
   obtain ⟨g, ha, hgl, x1, x2⟩ := HC.out j hlt'
   subst ha
   obtain ⟨p, hp⟩ : ∃ p, l[j] = p := ⟨_, rfl⟩
   rw [hp] at x1 x2
   obtain ⟨pk', pi⟩ := p
   have HT : Hid (l.take (j + 1) = l.take j ++ [(pk', pi)]) := by show l.take (j + 1) = _; rw [List.take_succ_eq_append_getElem hlt', hp]
   have e1 : wr.cell? ⟨g, j * 2, none⟩ = some (.int .i64 pk') := (hb.cell (p := ⟨g, j * 2, none⟩) hgl).trans x1
   have e2 : wr.cell? ⟨g, j * 2 + 1, none⟩ = some (.int .i64 pi) := (hb.cell (p := ⟨g, j * 2 + 1, none⟩) hgl).trans x2
   have hws : w.heap.size ≤ wr.heap.size := hb.size
   have hm1 : j + 1 + 1 ≤ maxLen := by unfold maxLen; omega
   have hm2 : (j + 1 + 1) * 16 ≤ 140737488355328 := by omega
   have hi0' : (0 : Int) ≤ (j : Int) := by omega
   have hin' : (j : Int) < (n : Int) := by omega
   clear ho hb x1 x2 hp
   go_wp2_with (at_builtin; refine wpList_append_own _ rfl (.tmp 18) (.tmp 23) 123 rfl w.heap.size 250 i0 (.agg #[.int .i64 0, .int .i64 0]) 2 16 Tryz.underlying123 hi93 hz0 hz1 hz2 rfl (by decide) _ (j + 1) (mkL ((k, i) :: l.take j)) (by simp [Act.eval]; rfl) (by exact HO.out.alloc _) ⟨wr.heap.size, 0, none⟩ 1 1 [.int .i64 pk', .int .i64 pi] (by simp [Act.eval]) rfl (by exact two_new _ _ _ _) (two_one _ _) hm1 hm2 (by simp; omega) ?_; intro v3 w3 hown3 hgrow3 hn3; clear hn3)
   have HB3 : Hid (Below w.heap.size w w3) := (HB.out.alloc hws _).grown hgrow3 (by simp; omega) (fun q hq => own_ge HO.out q hq)
   have HO3 : Hid _ := hown3
   clear hown3 hgrow3
   go_wp2
   go_roundw
   case rel =>
    refine ⟨j + 1, by omega, by go_num, ?_, HB3.out⟩
    have e : mkL ((k, i) :: (l.take j ++ [(pk', pi)])) = mkL ((k, i) :: l.take j) ++ [.int .i64 pk', .int .i64 pi] := by rw [← List.cons_append, mkL_snoc]
    rw [HT.out, e]
    exact HO3.out
   case measure => simp [intOf]; omega
  ·have e : j = n := by omega
   subst e
   have ht : l.take j = l := List.take_of_length_le (by have := HN.out; omega)
   rw [ht] at HO
   clear ho hb
   go_wp2
   go_ret
   exact ⟨_, rfl, HO.out, HB.out⟩
end Go.Proofs.YtadinjaocnlglaaGreatDoor
