/-
  The walk of layout.readList.
  What a head tells: the length of all data, the number of blocks.
  What is told ahead of the check, as data; once a field is wrong all is.
-/
import Derived.Test.YtadinjaocnlglaaGreatDoorZ07
import Derived.Test.YtadinjaocnlglaaGreatDoorZ09
import Derived.Laws.ResultCell
import Derived.Test.YtadinjaocnlglaaGreatDoorZ05
namespace Go.Proofs.YtadinjaocnlglaaGreatDoor
open Go.RowKit
set_option maxRecDepth 100000
set_option maxHeartbeats 4000000
theorem num_hiI (s : RS) (lo : Nat) (hi : Int) (h0 : 0 ≤ hi) : ((s.num lo hi).2 : Int) ≤ hi := by
  unfold RS.num
  split
  · simpa using h0
  · split
    · simpa using h0
    · rename_i h
      simp only [not_or] at h
      show ((vrd (s.text.extract s.next s.text.size)).1 : Int) ≤ hi
      omega
theorem results_row_tmp {P : Program} {fn : Func} {p u : Tmp} {ty : TypeId} (h : fn.results = #[.cell p ty, .tmp u]) (tmps : Array Value) (w : World) (g : Nat) (t : TypeId) (cs : Array Value) (fr : Nat × Nat) (d : TypeDesc)
    (hp : tmps.getD p undef = .pointer (some ⟨g, 0, none⟩)) (hg : w.heap[g]? = some (.cells cs t fr))
    (hu : P.underlying ty = some d) (hd : (match d with | .struct _ | .array _ _ => true | _ => false) = true) (hi : (P.info? ty).map (·.size) = some cs.size) :
    (results fn tmps).run P w = .ok (.tuple #[.agg cs, tmps.getD u undef]) w := by
  rw [results_cell_tmp h, hp]
  simp [asAddr, run_loadVar_row w g t ty cs fr d hg hu hd hi, Result.andThen]
theorem entry_le (s : RS) (before : ByteArray) (longest : Int) (h : 0 ≤ longest) : ((s.entry before longest).2.2 : Int) ≤ longest := num_hiI _ 0 longest h
/-- so many entries more -/
def RS.ents : Nat → RS → ByteArray → Int → List (ByteArray × Nat) → RS × List (ByteArray × Nat)
  | 0, s, _, _, acc => (s, acc)
  | k + 1, s, nm, left, acc => RS.ents k (s.entry nm left).1 (s.entry nm left).2.1 (left - (s.entry nm left).2.2) (acc ++ [((s.entry nm left).2.1, (s.entry nm left).2.2)])
/-- the params and the list as they are told -/
structure LT where
  st : RS
  K : Nat
  M : Nat
  C : Nat
  V : Nat
  es : List (ByteArray × Nat)
def RS.list (s : RS) : LT :=
  let s0 := s.word ⟨#[86, 76, 84, 49]⟩
  let a := s0.num 1 255
  let b := a.1.num 0 (255 - (a.2 : Int))
  let c := b.1.num 1 64
  let d := c.1.num 1 16
  let e := d.1.num 0 16
  let l := RS.ents e.2 e.1 ⟨#[]⟩ 4096 []
  ⟨l.1, a.2, b.2, c.2, d.2, l.2⟩
def enV (l : List (ByteArray × Nat)) : List Value := l.flatMap fun x => [.string x.1, .int .i64 x.2]
theorem enV_snoc (l : List (ByteArray × Nat)) (x : ByteArray × Nat) : enV (l ++ [x]) = enV l ++ [.string x.1, .int .i64 x.2] := by simp [enV]
theorem rlistR (r : Nat) (s : RS) (w : World) (h : RI r s w) : Calls Tryz.prog 288 #[.pointer (some ⟨r, 0, none⟩)] w fun e w' => ∃ v, e = .returned (.tuple #[.agg #[.int .i64 s.list.K, .int .i64 s.list.M, .int .i64 s.list.C, .int .i64 s.list.V], v]) ∧ w'.ownsRow w.heap.size 70 2 v s.list.es.length (enV s.list.es) ∧ RDid r s.list.st w w' := by
  have hrl : r < w.heap.size := (Array.getElem?_eq_some_iff.1 h.row).1
  obtain ⟨s0, hs0⟩ : ∃ s0, s.word ⟨#[86, 76, 84, 49]⟩ = s0 := ⟨_, rfl⟩
  obtain ⟨s1, hs1⟩ : ∃ x, (s0.num 1 255).1 = x := ⟨_, rfl⟩
  obtain ⟨K, hK⟩ : ∃ x, (s0.num 1 255).2 = x := ⟨_, rfl⟩
  obtain ⟨s2, hs2⟩ : ∃ x, (s1.num 0 (255 - (K : Int))).1 = x := ⟨_, rfl⟩
  obtain ⟨M, hM⟩ : ∃ x, (s1.num 0 (255 - (K : Int))).2 = x := ⟨_, rfl⟩
  obtain ⟨s3, hs3⟩ : ∃ x, (s2.num 1 64).1 = x := ⟨_, rfl⟩
  obtain ⟨C, hC⟩ : ∃ x, (s2.num 1 64).2 = x := ⟨_, rfl⟩
  obtain ⟨s4, hs4⟩ : ∃ x, (s3.num 1 16).1 = x := ⟨_, rfl⟩
  obtain ⟨V, hV⟩ : ∃ x, (s3.num 1 16).2 = x := ⟨_, rfl⟩
  obtain ⟨s5, hs5⟩ : ∃ x, (s4.num 0 16).1 = x := ⟨_, rfl⟩
  obtain ⟨n, hn⟩ : ∃ x, (s4.num 0 16).2 = x := ⟨_, rfl⟩
  obtain ⟨T, hT⟩ : ∃ T, RS.ents n s5 ⟨#[]⟩ 4096 [] = T := ⟨_, rfl⟩
  have e : s.list = ⟨T.1, K, M, C, V, T.2⟩ := by
    unfold RS.list
    simp only [hs0, hs1, hK, hs2, hM, hs3, hC, hs4, hV, hs5, hn, hT]
  rw [e]
  have hK2 : K ≤ 255 := by rw [← hK]; exact num_hi s0 1 255
  have hn2 : n ≤ 16 := by rw [← hn]; exact num_hi s4 0 16
  have H0 : Hid (∀ X : World, RI r s X → Calls Tryz.prog 287 #[.pointer (some ⟨r, 0, none⟩), .string ⟨#[86, 76, 84, 49]⟩] X fun e w' => e = .returned (.tuple #[]) ∧ RDid r s0 X w') := fun X hX => by rw [← hs0]; exact rword r s _ X hX (by decide)
  have H1 : Hid (∀ X : World, RI r s0 X → Calls Tryz.prog 289 #[.pointer (some ⟨r, 0, none⟩), .int .i64 1, .int .i64 255] X fun e w' => e = .returned (.int .i64 K) ∧ RDid r s1 X w') := fun X hX => by rw [← hs1, ← hK]; exact rnum r s0 1 255 X hX
  have H2 : Hid (∀ X : World, RI r s1 X → Calls Tryz.prog 289 #[.pointer (some ⟨r, 0, none⟩), .int .i64 0, .int .i64 (255 - (K : Int))] X fun e w' => e = .returned (.int .i64 M) ∧ RDid r s2 X w') := fun X hX => by rw [← hs2, ← hM]; exact rnum r s1 0 _ X hX
  have H3 : Hid (∀ X : World, RI r s2 X → Calls Tryz.prog 289 #[.pointer (some ⟨r, 0, none⟩), .int .i64 1, .int .i64 64] X fun e w' => e = .returned (.int .i64 C) ∧ RDid r s3 X w') := fun X hX => by rw [← hs3, ← hC]; exact rnum r s2 1 64 X hX
  have H4 : Hid (∀ X : World, RI r s3 X → Calls Tryz.prog 289 #[.pointer (some ⟨r, 0, none⟩), .int .i64 1, .int .i64 16] X fun e w' => e = .returned (.int .i64 V) ∧ RDid r s4 X w') := fun X hX => by rw [← hs4, ← hV]; exact rnum r s3 1 16 X hX
  have H5 : Hid (∀ X : World, RI r s4 X → Calls Tryz.prog 289 #[.pointer (some ⟨r, 0, none⟩), .int .i64 0, .int .i64 16] X fun e w' => e = .returned (.int .i64 n) ∧ RDid r s5 X w') := fun X hX => by rw [← hs5, ← hn]; exact rnum r s4 0 16 X hX
  have HT : Hid _ := hT
  obtain ⟨g, hg⟩ : ∃ g, w.heap.size = g := ⟨_, rfl⟩
  have HG : Hid _ := hg
  obtain ⟨W, hW⟩ : ∃ W, w.alloc (.cells #[.int .i64 0, .int .i64 0, .int .i64 0, .int .i64 0] 23) = W := ⟨_, rfl⟩
  have hgr : g ≠ r := by omega
  have HIW : Hid (RI r s W) := by show RI r s W; rw [← hW]; exact h.low ((Below.refl _ _).alloc (Nat.le_refl _) _)
  have HFW : Hid (Fr (fun j => j = r) w W) := by show Fr _ w W; rw [← hW]; exact (Fr.refl _ w).alloc _
  have hrow : W.heap[g]? = some (.cells #[.int .i64 0, .int .i64 0, .int .i64 0, .int .i64 0] 23 (0, 0)) := by rw [← hW, ← hg]; exact heap_alloc_new _ _
  have HSTEP : Hid (∀ (X Y : World) (cs : Array Value) (st : RS), X.heap[g]? = some (.cells cs 23 (0, 0)) → Fr (fun j => j = r) w X → RDid r st X Y → Y.heap[g]? = some (.cells cs 23 (0, 0)) ∧ Fr (fun j => j = r) w Y) := fun X Y cs st h1 h2 h3 => ⟨by rw [h3.2.old g (Array.getElem?_eq_some_iff.1 h1).1 hgr]; exact h1, h2.trans' h3.2⟩
  have HSET : Hid (∀ (X : World) (cs : Array Value) (st : RS) (k : Nat) (v : Value), X.heap[g]? = some (.cells cs 23 (0, 0)) → Fr (fun j => j = r) w X → RI r st X → (X.setCell ⟨g, k, none⟩ v).heap[g]? = some (.cells (cs.setIfInBounds k v) 23 (0, 0)) ∧ Fr (fun j => j = r) w (X.setCell ⟨g, k, none⟩ v) ∧ RI r st (X.setCell ⟨g, k, none⟩ v)) := fun X cs st k v h1 h2 h3 => ⟨set_heap _ _ _ _ _ _ _ h1, h2.set (g := g) (.inr (by rw [HG.out]; exact Nat.le_refl _)) _ _, ⟨by rw [set_other _ _ _ _ _ hgr.symm]; exact h3.row, h3.fn, h3.nt, h3.small⟩⟩
  have HROW : Hid _ := hrow
  obtain ⟨i0, hi0, z0, z1, z2⟩ := info_parts info103
  clear h hs0 hs1 hK hs2 hM hs3 hC hs4 hV hs5 hn hT e hrow
  go_enter Tryz.func288, Tryz.ntmps288
  go_wp2_with fail
  try rw [hW]
  try rw [hg]
  clear hW hg
  refine Calls.mono (H0.out _ HIW.out) ?_
  rintro e w0 ⟨rfl, hD⟩
  obtain ⟨hr0, hf0⟩ := HSTEP.out _ _ _ _ HROW.out HFW.out hD
  have HR0 : Hid _ := hr0
  have HF0 : Hid _ := hf0
  have HI0 : Hid (RI r s0 w0) := hD.1
  clear hr0 hf0 hD
  go_wp2_with fail
  refine Calls.mono (H1.out _ HI0.out) ?_
  rintro e w1 ⟨rfl, hD⟩
  obtain ⟨hr1, hf1⟩ := HSTEP.out _ _ _ _ HR0.out HF0.out hD
  have c0 : w1.cell? ⟨g, 0, none⟩ = some (.int .i64 0) := cell_of_row _ _ _ _ 23 _ hr1
  have f0 := frozen_of_row w1 g 0 _ 23 hr1
  obtain ⟨hr1', hf1', hi1'⟩ := HSET.out w1 _ s1 0 (.int .i64 K) hr1 hf1 hD.1
  obtain ⟨X1, hX1⟩ : ∃ X, w1.setCell ⟨g, 0, none⟩ (.int .i64 K) = X := ⟨_, rfl⟩
  rw [hX1] at hr1' hf1' hi1'
  have d0 : X1.cell? ⟨g, 0, none⟩ = some (.int .i64 K) := cell_of_row _ _ _ _ 23 _ hr1'
  have HR1 : Hid _ := hr1'
  have HF1 : Hid _ := hf1'
  have HI1 : Hid _ := hi1'
  have hsub : IntKind.i64.wrap (255 - (K : Int)) = 255 - (K : Int) := by rw [IntKind.wrap_i64]; omega
  clear hD hr1 hf1 hr1' hf1' hi1'
  go_wp2_with fail
  try rw [hX1]
  clear hX1 c0 f0
  refine Calls.mono (H2.out _ HI1.out) ?_
  rintro e w2 ⟨rfl, hD⟩
  obtain ⟨hr, hf⟩ := HSTEP.out _ _ _ _ HR1.out HF1.out hD
  have c1 : w2.cell? ⟨g, 1, none⟩ = some (.int .i64 0) := cell_of_row _ _ _ _ 23 _ hr
  have f1 := frozen_of_row w2 g 1 _ 23 hr
  obtain ⟨hr', hf', hi'⟩ := HSET.out w2 _ s2 1 (.int .i64 M) hr hf hD.1
  obtain ⟨X2, hX2⟩ : ∃ X, w2.setCell ⟨g, 1, none⟩ (.int .i64 M) = X := ⟨_, rfl⟩
  rw [hX2] at hr' hf' hi'
  have HR2 : Hid _ := hr'
  have HF2 : Hid _ := hf'
  have HI2 : Hid _ := hi'
  clear hD hr hf hr' hf' hi'
  clear d0
  go_wp2_with fail
  try rw [hX2]
  clear hX2 c1 f1
  refine Calls.mono (H3.out _ HI2.out) ?_
  rintro e w3 ⟨rfl, hD⟩
  obtain ⟨hr, hf⟩ := HSTEP.out _ _ _ _ HR2.out HF2.out hD
  have c2 : w3.cell? ⟨g, 2, none⟩ = some (.int .i64 0) := cell_of_row _ _ _ _ 23 _ hr
  have f2 := frozen_of_row w3 g 2 _ 23 hr
  obtain ⟨hr', hf', hi'⟩ := HSET.out w3 _ s3 2 (.int .i64 C) hr hf hD.1
  obtain ⟨X3, hX3⟩ : ∃ X, w3.setCell ⟨g, 2, none⟩ (.int .i64 C) = X := ⟨_, rfl⟩
  rw [hX3] at hr' hf' hi'
  have HR3 : Hid _ := hr'
  have HF3 : Hid _ := hf'
  have HI3 : Hid _ := hi'
  clear hD hr hf hr' hf' hi'
  go_wp2_with fail
  try rw [hX3]
  clear hX3 c2 f2
  refine Calls.mono (H4.out _ HI3.out) ?_
  rintro e w4 ⟨rfl, hD⟩
  obtain ⟨hr, hf⟩ := HSTEP.out _ _ _ _ HR3.out HF3.out hD
  have c3 : w4.cell? ⟨g, 3, none⟩ = some (.int .i64 0) := cell_of_row _ _ _ _ 23 _ hr
  have f3 := frozen_of_row w4 g 3 _ 23 hr
  obtain ⟨hr', hf', hi'⟩ := HSET.out w4 _ s4 3 (.int .i64 V) hr hf hD.1
  obtain ⟨X4, hX4⟩ : ∃ X, w4.setCell ⟨g, 3, none⟩ (.int .i64 V) = X := ⟨_, rfl⟩
  rw [hX4] at hr' hf' hi'
  have HR4 : Hid _ := hr'
  have HF4 : Hid _ := hf'
  have HI4 : Hid _ := hi'
  clear hD hr hf hr' hf' hi'
  go_wp2_with fail
  try rw [hX4]
  clear hX4 c3 f3
  refine Calls.mono (H5.out _ HI4.out) ?_
  rintro e w5 ⟨rfl, hD⟩
  obtain ⟨hr, hf⟩ := HSTEP.out _ _ _ _ HR4.out HF4.out hD
  have HR5 : Hid (w5.heap[g]? = some (.cells #[.int .i64 K, .int .i64 M, .int .i64 C, .int .i64 V] 23 (0, 0))) := hr
  have HF5 : Hid _ := hf
  have HI5 : Hid _ := hD.1
  have hg5 : g < w5.heap.size := (Array.getElem?_eq_some_iff.1 hr).1
  clear hD hr hf
  go_wp2_with fail
  go_loopw [3, 5, 6, 7, 28] (fun ev nv lv _ iv wr => ∃ (i : Nat) (oo : Value) (st : RS) (nm : ByteArray) (left : Int) (acc : List (ByteArray × Nat)), i ≤ n ∧ oo = ev ∧ nv = .string nm ∧ lv = .int .i64 left ∧ iv = .int .i64 i ∧ 0 ≤ left ∧ left ≤ 4096 ∧ acc.length = i ∧ RS.ents (n - i) st nm left acc = T ∧ wr.ownsRow g 70 2 oo i (enV acc) ∧ RI r st wr ∧ Fr (fun j => j = r) w wr ∧ wr.heap[g]? = some (.cells #[.int .i64 K, .int .i64 M, .int .i64 C, .int .i64 V] 23 (0, 0))) (fun _ _ _ _ iv _ => n - (intOf iv).toNat)
  case atStart => exact ⟨0, _, s5, ⟨#[]⟩, 4096, [], by omega, rfl, rfl, rfl, rfl, by omega, by omega, rfl, HT.out, ⟨rfl, .inl ⟨rfl, rfl⟩⟩, HI5.out, HF5.out, HR5.out⟩
  case round =>
    obtain ⟨i, oo, st, nm, left, acc, hi, rfl, rfl, rfl, rfl, hl0, hl1, hal, hen, ho, hI, hF, hR⟩ := hrel
    obtain ⟨ao, co, hsv⟩ := own_shape ho
    subst hsv
    have HO : Hid _ := ho
    have HF : Hid _ := hF
    have HR : Hid _ := hR
    have HEN : Hid _ := hen
    have HAL : Hid _ := hal
    have HI : Hid _ := hI
    have hgl : g < wr.heap.size := (Array.getElem?_eq_some_iff.1 hR).1
    by_cases hlt : i < n
    · have H319 : Hid _ := rentry r st nm left wr hI
      have hln := entry_le st nm left hl0
      have hk : n - i = (n - (i + 1)) + 1 := by omega
      have hen2 := hen
      rw [hk, RS.ents] at hen2
      obtain ⟨st', hst'⟩ : ∃ x, (st.entry nm left).1 = x := ⟨_, rfl⟩
      obtain ⟨nm', hnm'⟩ : ∃ x, (st.entry nm left).2.1 = x := ⟨_, rfl⟩
      obtain ⟨ln, hln'⟩ : ∃ x, (st.entry nm left).2.2 = x := ⟨_, rfl⟩
      rw [hst', hnm', hln'] at H319 hen2
      rw [hln'] at hln
      have HEN2 : Hid _ := hen2
      have hsub2 : IntKind.i64.wrap (left - (ln : Int)) = left - (ln : Int) := by rw [IntKind.wrap_i64]; omega
      clear ho hI hF hR hen hal hen2 hk hst' hnm' hln'
      go_wp2_with fail
      refine Calls.mono H319.out ?_
      rintro e w1 ⟨rfl, hD1⟩
      have hsz1 := hD1.2.size
      have HR1 : Hid (w1.heap[g]? = some (.cells #[.int .i64 K, .int .i64 M, .int .i64 C, .int .i64 V] 23 (0, 0))) := by show _ = _; rw [hD1.2.old g hgl hgr]; exact HR.out
      have HO1 : Hid (w1.ownsRow g 70 2 (.slice ao i co) i (enV acc)) := own_kept HO.out (fun q hq => hD1.2.old q (own_lt HO.out q hq) (fun e => by
        obtain ⟨cur, hc⟩ := own_type HO.out q hq
        have h2 := HI.out.row
        rw [← e, hc] at h2; simp at h2))
      have HI1 : Hid (RI r st' w1) := hD1.1
      have HF1' : Hid (Fr (fun j => j = r) w w1) := HF.out.trans' hD1.2
      have hg1 : g < w1.heap.size := by omega
      have HNW : Hid (∀ j u, [Value.string nm', .int .i64 ln][j]? = some u → ((w1.alloc (.cells #[.string nm', .int .i64 ln] 70)).alloc (.cells #[.string nm', .int .i64 ln] 70)).cell? ((⟨w1.heap.size + 1, 0, none⟩ : Addr).add j) = some u) := fun j u hj => by
        have h := cells_new (w1.alloc (.cells #[.string nm', .int .i64 ln] 70)) [.string nm', .int .i64 ln] 70 j u hj
        have e : (w1.alloc (.cells #[.string nm', .int .i64 ln] 70)).heap.size = w1.heap.size + 1 := by simp
        rw [e] at h
        exact h
      clear hD1
      go_wp2_with (at_builtin; refine wpList_append_own _ rfl (.tmp 34) (.tmp 36) 59 rfl g 70 i0 (.agg #[.string ⟨#[]⟩, .int .i64 0]) 2 24 Tryz.underlying59 hi0 z0 z1 z2 rfl (by decide) (.slice ao i co) i (enV acc) (by simp [Act.eval]) ((HO1.out.alloc _).alloc _) ⟨w1.heap.size + 1, 0, none⟩ 1 1 [.string nm', .int .i64 ln] (by simp [Act.eval]) rfl HNW.out (by intro u hu; simp at hu; rcases hu with rfl | rfl <;> rfl) (by unfold maxLen; omega) (by omega) (by simp; omega) ?_; intro v2 w2 hO2 hG2 _; obtain ⟨a2, k2, hv2⟩ := own_shape hO2; subst hv2; have hA2 : w2.heap[w1.heap.size]? = some (.cells #[.string nm', .int .i64 ln] 70 (0, 0)) := (by rw [hG2.block _ (by simp; try omega) (fun e => by have := own_lt HO1.out _ e.symm; omega), heap_alloc_old _ _ (by simp; try omega), heap_alloc_new]); have m0 : w2.cell? ⟨w1.heap.size, 0, none⟩ = some (.string nm') := cell_of_row _ _ _ _ 70 _ hA2; have m1 : w2.cell? ⟨w1.heap.size, 1, none⟩ = some (.int .i64 ln) := cell_of_row _ _ _ _ 70 _ hA2; have HO2 : Hid _ := hO2; have HG2 : Hid _ := hG2; clear hA2 hO2 hG2)
      go_roundw
      case rel =>
        have hne : ∀ q, (Value.slice ao i co).ownBlock = some q → q < w1.heap.size ∧ q ≠ r := fun q hq => ⟨own_lt HO1.out q hq, fun e => by
          obtain ⟨cur, hc⟩ := own_type HO1.out q hq
          have h2 := HI1.out.row
          rw [← e, hc] at h2; simp at h2⟩
        have hk2 : ∀ j, j < w1.heap.size → (Value.slice ao i co).ownBlock ≠ some j → w2.heap[j]? = w1.heap[j]? := fun j hj hn => by
          rw [HG2.out.block j (by simp; omega) (fun e => hn e.symm), heap_alloc_old _ _ (by simp; omega), heap_alloc_old _ _ hj]
        have hrl1 : r < w1.heap.size := (Array.getElem?_eq_some_iff.1 HI1.out.row).1
        have hfin : i + 1 ≤ n ∧ 0 ≤ left - (ln : Int) ∧ left - (ln : Int) ≤ 4096 ∧ (acc ++ [(nm', ln)]).length = i + 1 ∧ w2.ownsRow g 70 2 (.slice a2 (i + 1) k2) (i + 1) (enV (acc ++ [(nm', ln)])) ∧ RI r st' w2 ∧ Fr (fun j => j = r) w w2 ∧ w2.heap[g]? = some (.cells #[.int .i64 K, .int .i64 M, .int .i64 C, .int .i64 V] 23 (0, 0)) := by
          refine ⟨by omega, by omega, by omega, by rw [List.length_append, HAL.out]; rfl, by rw [enV_snoc]; exact HO2.out, ⟨?_, HI1.out.fn, HI1.out.nt, HI1.out.small⟩, ?_, ?_⟩
          · rw [hk2 r hrl1 (fun e => (hne r e).2 rfl)]; exact HI1.out.row
          · exact ((HF1'.out.alloc _).alloc _).grown HG2.out (fun q hq => .inr (by have := own_ge HO1.out q hq; rw [HG.out]; exact this))
          · rw [hk2 g hg1 (fun e => by obtain ⟨cur, hc⟩ := own_type HO1.out g e; rw [HR1.out] at hc; simp at hc)]; exact HR1.out
        obtain ⟨y1, y2, y3, y4, y5, y6, y7, y8⟩ := hfin
        exact ⟨i + 1, _, st', nm', left - ln, acc ++ [(nm', ln)], y1, rfl, rfl, rfl, by go_num, y2, y3, y4, HEN2.out, y5, y6, y7, y8⟩
      case measure => simp [intOf]; omega
    · have ei : i = n := by omega
      subst ei
      have hTT : T = (st, acc) := by have := HEN.out; rw [Nat.sub_self] at this; exact this.symm
      have p0 : wr.cell? ⟨g, 0, none⟩ = some (.int .i64 K) := cell_of_row _ _ _ _ 23 _ hR
      have p1 : wr.cell? ⟨g, 1, none⟩ = some (.int .i64 M) := cell_of_row _ _ _ _ 23 _ hR
      have p2 : wr.cell? ⟨g, 2, none⟩ = some (.int .i64 C) := cell_of_row _ _ _ _ 23 _ hR
      have p3 : wr.cell? ⟨g, 3, none⟩ = some (.int .i64 V) := cell_of_row _ _ _ _ 23 _ hR
      have q0 := frozen_of_row wr g 0 _ 23 hR
      have q1 := frozen_of_row wr g 1 _ 23 hR
      have q2 := frozen_of_row wr g 2 _ 23 hR
      have q3 := frozen_of_row wr g 3 _ 23 hR
      have HTT : Hid _ := hTT
      clear ho hI hF hR hen hal hTT
      go_wp2
      have hRR := set_heap _ _ 3 (.int .i64 V) _ _ _ (set_heap _ _ 2 (.int .i64 C) _ _ _ (set_heap _ _ 1 (.int .i64 M) _ _ _ (set_heap _ _ 0 (.int .i64 K) _ _ _ HR.out)))
      have hgg : w.heap.size ≤ g := by rw [HG.out]; exact Nat.le_refl _
      refine bodyPost_ret (v := .tuple #[.agg #[.int .i64 K, .int .i64 M, .int .i64 C, .int .i64 V], .slice ao i co]) ?_ rfl ?_
      · exact results_row_tmp Tryz.results288 _ _ g 23 _ (0, 0) _ rfl hRR Tryz.underlying23 rfl (by kernel_rfl)
      · refine ⟨.slice ao i co, rfl, ?_, ⟨?_, ?_, ?_, ?_⟩, ?_⟩
        · rw [HTT.out]
          show World.ownsRow _ w.heap.size 70 2 _ acc.length (enV acc)
          rw [HAL.out, HG.out]
          have hne : ∀ q, (Value.slice ao i co).ownBlock = some q → q ≠ g := fun q hq e => by
            obtain ⟨cur, hc⟩ := own_type HO.out q hq
            rw [e, HR.out] at hc; simp at hc
          exact own_kept HO.out (fun q hq => by rw [set_other _ _ _ _ _ (hne q hq), set_other _ _ _ _ _ (hne q hq), set_other _ _ _ _ _ (hne q hq), set_other _ _ _ _ _ (hne q hq)])
        · rw [HTT.out, set_other _ _ _ _ _ hgr.symm, set_other _ _ _ _ _ hgr.symm, set_other _ _ _ _ _ hgr.symm, set_other _ _ _ _ _ hgr.symm]; exact HI.out.row
        · rw [HTT.out]; exact HI.out.fn
        · rw [HTT.out]; exact HI.out.nt
        · rw [HTT.out]; exact HI.out.small
        · exact (((HF.out.set (g := g) (.inr hgg) 0 _).set (g := g) (.inr hgg) 1 _).set (g := g) (.inr hgg) 2 _).set (g := g) (.inr hgg) 3 _
end Go.Proofs.YtadinjaocnlglaaGreatDoor
namespace Go.Proofs.YtadinjaocnlglaaGreatDoor
open Go.RowKit
set_option maxRecDepth 100000
set_option maxHeartbeats 4000000
def lenE (l : List (ByteArray × Nat)) : Nat := (l.map (·.2)).sum
theorem enV_at : ∀ (l : List (ByteArray × Nat)) (i : Nat) (h : i < l.length), (enV l)[i * 2]? = some (.string l[i].1) ∧ (enV l)[i * 2 + 1]? = some (.int .i64 l[i].2)
  | x :: r, 0, _ => by simp [enV]
  | x :: r, i + 1, h => by
    have := enV_at r i (by simpa using h)
    simpa [enV, Nat.succ_mul] using this
theorem en_cells {w : World} {B n c : Nat} {a : Option Addr} {l : List (ByteArray × Nat)} (hn : l.length = n) (h : w.ownsRow B 70 2 (.slice a n c) n (enV l)) (i : Nat) (hi : i < l.length) : ∃ g, a = some ⟨g, 0, none⟩ ∧ g < w.heap.size ∧ w.cell? ⟨g, i * 2, none⟩ = some (.string l[i].1) ∧ w.cell? ⟨g, i * 2 + 1, none⟩ = some (.int .i64 l[i].2) := by
  subst hn
  rcases h.2 with ⟨_, h'⟩ | ⟨g, cap, cur, hv, hb, hh, _⟩
  · omega
  · obtain rfl : a = some ⟨g, 0, none⟩ := by simp at hv; exact hv.1
    have h1 := h.cellAt (i * 2) (by omega)
    have h2 := h.cellAt (i * 2 + 1) (by omega)
    exact ⟨g, rfl, (Array.getElem?_eq_some_iff.1 hh).1, h1.trans (enV_at l i hi).1, h2.trans (enV_at l i hi).2⟩
theorem lenE_take : ∀ (l : List (ByteArray × Nat)) (i : Nat) (h : i < l.length), lenE (l.take (i + 1)) = lenE (l.take i) + l[i].2
  | x :: r, 0, _ => by simp [lenE]
  | x :: r, i + 1, h => by
    have := lenE_take r i (by simpa using h)
    simp only [lenE, List.take_succ_cons, List.map_cons, List.sum_cons, List.getElem_cons_succ] at this ⊢
    omega
theorem hlength (b B n c : Nat) (a : Option Addr) (es : List (ByteArray × Nat)) (w : World) (hc : w.cell? ⟨b, 6, none⟩ = some (.slice a n c)) (hn : es.length = n) (ho : w.ownsRow B 70 2 (.slice a n c) n (enV es)) (hs : ∀ i, lenE (es.take i) ≤ 1000000) (hn2 : n ≤ 1000) :
    Calls Tryz.prog 260 #[.pointer (some ⟨b, 0, none⟩)] w fun e w' => e = .returned (.int .i64 (lenE es)) ∧ Below w.heap.size w w' := by
  have HC : Hid _ := fun i hi => en_cells hn ho i hi
  have HS : Hid _ := hs
  have HN : Hid _ := hn
  clear ho hs hn
  go_enter Tryz.func260, Tryz.ntmps260
  go_wp2_with fail
  go_loopw [3, 5, 11] (fun sv _ iv wr => ∃ i : Nat, i ≤ n ∧ iv = .int .i64 i ∧ sv = .int .i64 (lenE (es.take i)) ∧ Below w.heap.size w wr) (fun _ _ iv _ => n - (intOf iv).toNat)
  case atStart => exact ⟨0, by omega, rfl, by simp [lenE], Below.refl _ _⟩
  case round =>
    obtain ⟨i, hi, rfl, rfl, hb⟩ := hrel
    have HB : Hid _ := hb
    by_cases hlt : i < n
    · have hil : i < es.length := by rw [HN.out]; exact hlt
      obtain ⟨g, ha, hgl, x0, x1⟩ := HC.out i hil
      subst ha
      have y0 := (hb.cell (p := ⟨g, i * 2, none⟩) hgl).trans x0
      have y1 := (hb.cell (p := ⟨g, i * 2 + 1, none⟩) hgl).trans x1
      have HT : Hid _ := lenE_take es i hil
      have h1 := HS.out (i + 1)
      rw [HT.out] at h1
      obtain ⟨t, ht⟩ : ∃ t, lenE (es.take i) = t := ⟨_, rfl⟩
      obtain ⟨X, hX⟩ : ∃ X, es[i].1 = X := ⟨_, rfl⟩
      obtain ⟨y, hy⟩ : ∃ y, es[i].2 = y := ⟨_, rfl⟩
      rw [ht, hy] at HT h1
      rw [ht]
      rw [hX] at y0
      rw [hy] at y1
      have hin : (i : Int) < (n : Int) := by omega
      clear x0 x1 hb ht hX hy
      go_wp2
      go_roundw
      case rel => exact ⟨i + 1, by omega, by go_num, by rw [HT.out]; go_num, HB.out.alloc HB.out.size _⟩
      case measure => simp [intOf]; omega
    · have ei : i = n := by omega
      subst ei
      have ht : es.take i = es := List.take_of_length_le (by rw [HN.out]; exact Nat.le_refl _)
      rw [ht]
      go_wp2
      go_ret
      exact ⟨rfl, HB.out⟩
theorem hcount (b B n c K M C V : Nat) (a : Option Addr) (es : List (ByteArray × Nat)) (w : World) (c2 : w.cell? ⟨b, 2, none⟩ = some (.int .i64 K)) (c3 : w.cell? ⟨b, 3, none⟩ = some (.int .i64 M)) (c4 : w.cell? ⟨b, 4, none⟩ = some (.int .i64 C)) (c5 : w.cell? ⟨b, 5, none⟩ = some (.int .i64 V))
    (hc : w.cell? ⟨b, 6, none⟩ = some (.slice a n c)) (hn : es.length = n) (ho : w.ownsRow B 70 2 (.slice a n c) n (enV es)) (hs : ∀ i, lenE (es.take i) ≤ 100000) (hn2 : n ≤ 1000) (hK : 1 ≤ K) (hKM : K + M ≤ 255) (hC : 1 ≤ C) (hC2 : C ≤ 64) :
    Calls Tryz.prog 252 #[.pointer (some ⟨b, 0, none⟩)] w fun e w' => e = .returned (.int .i64 (nst (K * C) (lenE es) * (K + M) : Nat)) ∧ Below w.heap.size w w' := by
  have hz0 : 0 < K * C := Nat.mul_pos hK hC
  have hz1 : K * C ≤ 100000 := Nat.le_trans (Nat.mul_le_mul (show K ≤ 255 by omega) hC2) (by omega)
  have hle : lenE es ≤ 100000 := by have := hs es.length; rw [List.take_length] at this; exact this
  have hbl : b < w.heap.size := block_lt_of_cell c2
  have H1 : Hid (∀ X : World, Below w.heap.size w X → Calls Tryz.prog 260 #[.pointer (some ⟨b, 0, none⟩)] X fun e w' => e = .returned (.int .i64 (lenE es)) ∧ Below X.heap.size X w') := fun X hX => hlength b B n c a es X ((hX.cell (p := ⟨b, 6, none⟩) hbl).trans hc) hn (own_below ho hX) (fun i => Nat.le_trans (hs i) (by omega)) hn2
  have H2 : Hid (∀ X : World, Calls Tryz.prog 154 #[.agg #[.int .i64 K, .int .i64 M, .int .i64 C, .int .i64 V], .int .i64 (lenE es)] X fun e w' => e = .returned (.int .i64 (nst (K * C) (lenE es) * (K + M) : Nat)) ∧ Below X.heap.size X w') := fun X => countBlocks_any K M C V (lenE es) (K * C) X rfl hz0 hz1 hle (by omega) (by omega)
  obtain ⟨cn, hcn⟩ : ∃ cn, nst (K * C) (lenE es) * (K + M) = cn := ⟨_, rfl⟩
  rw [hcn] at H2 ⊢
  clear hc hn ho hs
  go_enter Tryz.func252, Tryz.ntmps252
  go_wp2_with fail
  go_region_held3 (fun w2 => w2.cell? ⟨b, 2, none⟩ = some (.int .i64 K) ∧ w2.cell? ⟨b, 3, none⟩ = some (.int .i64 M) ∧ w2.cell? ⟨b, 4, none⟩ = some (.int .i64 C) ∧ w2.cell? ⟨b, 5, none⟩ = some (.int .i64 V)) (go_keep) (first | (go_at_call 260; refine Calls.mono (H1.out _ (by first | exact Below.refl _ _ | exact (Below.refl _ _).drew)) ?_; rintro e w1 ⟨rfl, hb1⟩; have hB1 : Below w.heap.size w w1 := (by first | exact hb1 | exact ((Below.refl _ _).drew).trans hb1); have q2 := (hB1.cell (p := ⟨b, 2, none⟩) hbl).trans c2; have q3 := (hB1.cell (p := ⟨b, 3, none⟩) hbl).trans c3; have q4 := (hB1.cell (p := ⟨b, 4, none⟩) hbl).trans c4; have q5 := (hB1.cell (p := ⟨b, 5, none⟩) hbl).trans c5) | (go_at_call 154; refine Calls.mono (H2.out _) ?_; rintro e w2 ⟨rfl, hb2⟩; have hB2 : Below w.heap.size w w2 := (hB1.trans (hb2.mono hB1.size)); have u2 := (hB2.cell (p := ⟨b, 2, none⟩) hbl).trans c2; have u3 := (hB2.cell (p := ⟨b, 3, none⟩) hbl).trans c3; have u4 := (hB2.cell (p := ⟨b, 4, none⟩) hbl).trans c4; have u5 := (hB2.cell (p := ⟨b, 5, none⟩) hbl).trans c5))
  have HB : Hid _ := hB2
  clear hB1 hB2 hb1 hb2 q2 q3 q4 q5 u2 u3 u4 u5
  go_wp2
  go_ret
  exact ⟨rfl, HB.out⟩
end Go.Proofs.YtadinjaocnlglaaGreatDoor
namespace Go.Proofs.YtadinjaocnlglaaGreatDoor
open Go.RowKit
set_option maxRecDepth 100000
set_option maxHeartbeats 1000000
theorem num_ok {s : RS} {lo : Nat} {hi : Int} (h : (s.num lo hi).1.wrong = false) : s.wrong = false ∧ lo ≤ (s.num lo hi).2 ∧ ((s.num lo hi).2 : Int) ≤ hi := by
  unfold RS.num at h ⊢
  cases hw : s.wrong with
  | true => rw [hw] at h; simp only [if_true] at h; rw [hw] at h; cases h
  | false =>
    rw [hw] at h
    simp only [Bool.false_eq_true, if_false] at h ⊢
    split at h
    · cases h
    · rename_i hn
      rw [if_neg hn]
      simp only [not_or] at hn
      exact ⟨trivial, by show lo ≤ (vrd (s.text.extract s.next s.text.size)).1; omega, by show ((vrd (s.text.extract s.next s.text.size)).1 : Int) ≤ hi; omega⟩
theorem bytes_ok {s : RS} {n : Nat} (h : (s.bytes n).1.wrong = false) : s.wrong = false := by
  unfold RS.bytes at h
  cases hw : s.wrong with
  | true => rw [hw] at h; simp only [if_true] at h; rw [hw] at h; cases h
  | false => rfl
theorem word_ok {s : RS} {t : ByteArray} (h : (s.word t).wrong = false) : s.wrong = false := by
  unfold RS.word at h
  split at h
  · exact bytes_ok h
  · cases h
theorem entry_ok {s : RS} {b : ByteArray} {l : Int} (h : (s.entry b l).1.wrong = false) : s.wrong = false := by
  have h1 := (num_ok (show ((if leT ((s.num 1 255).1.bytes (s.num 1 255).2).2 b then ((s.num 1 255).1.bytes (s.num 1 255).2).1.refuse else ((s.num 1 255).1.bytes (s.num 1 255).2).1).num 0 l).1.wrong = false from h)).1
  split at h1
  · cases h1
  · exact (num_ok (bytes_ok h1)).1
theorem ents_ok : ∀ (k : Nat) (s : RS) (nm : ByteArray) (left : Int) (acc : List (ByteArray × Nat)), (RS.ents k s nm left acc).1.wrong = false → s.wrong = false
  | 0, _, _, _, _, h => h
  | k + 1, _, _, _, _, h => entry_ok (ents_ok k _ _ _ _ h)
theorem ents_len : ∀ (k : Nat) (s : RS) (nm : ByteArray) (left : Int) (acc : List (ByteArray × Nat)), (RS.ents k s nm left acc).2.length = acc.length + k
  | 0, s, nm, left, acc => rfl
  | k + 1, s, nm, left, acc => by
    rw [RS.ents, ents_len k]
    simp; omega
theorem lenE_app (l r : List (ByteArray × Nat)) : lenE (l ++ r) = lenE l + lenE r := by simp [lenE]
theorem ents_sum : ∀ (k : Nat) (s : RS) (nm : ByteArray) (left : Int) (acc : List (ByteArray × Nat)), 0 ≤ left → (lenE (RS.ents k s nm left acc).2 : Int) ≤ lenE acc + left
  | 0, s, nm, left, acc, h => by show (lenE acc : Int) ≤ _; omega
  | k + 1, s, nm, left, acc, h => by
    have h1 := entry_le s nm left h
    have h2 := ents_sum k (s.entry nm left).1 (s.entry nm left).2.1 (left - (s.entry nm left).2.2) (acc ++ [((s.entry nm left).2.1, (s.entry nm left).2.2)]) (by omega)
    rw [RS.ents]
    rw [lenE_app] at h2
    have h3 : lenE [((s.entry nm left).2.1, (s.entry nm left).2.2)] = (s.entry nm left).2.2 := by simp [lenE]
    rw [h3] at h2
    omega
theorem list_len (s : RS) : s.list.es.length ≤ 16 := by
  unfold RS.list
  show (RS.ents _ _ _ _ _).2.length ≤ 16
  rw [ents_len]
  have := num_hi ((((((s.word ⟨#[86, 76, 84, 49]⟩).num 1 255).1.num 0 (255 - (((s.word ⟨#[86, 76, 84, 49]⟩).num 1 255).2 : Int))).1.num 1 64).1.num 1 16).1) 0 16
  simp only [List.length_nil, Nat.zero_add]
  exact this
theorem list_sum (s : RS) : lenE s.list.es ≤ 4096 := by
  unfold RS.list
  have := ents_sum (((((((s.word ⟨#[86, 76, 84, 49]⟩).num 1 255).1.num 0 (255 - (((s.word ⟨#[86, 76, 84, 49]⟩).num 1 255).2 : Int))).1.num 1 64).1.num 1 16).1.num 0 16).2) (((((((s.word ⟨#[86, 76, 84, 49]⟩).num 1 255).1.num 0 (255 - (((s.word ⟨#[86, 76, 84, 49]⟩).num 1 255).2 : Int))).1.num 1 64).1.num 1 16).1.num 0 16).1) ⟨#[]⟩ 4096 [] (by omega)
  have h0 : lenE ([] : List (ByteArray × Nat)) = 0 := rfl
  rw [h0] at this
  show lenE (RS.ents _ _ _ _ _).2 ≤ 4096
  omega
theorem lenE_take_le (l : List (ByteArray × Nat)) (i : Nat) : lenE (l.take i) ≤ lenE l := by
  have h : lenE l = lenE (l.take i) + lenE (l.drop i) := by rw [← lenE_app, List.take_append_drop]
  omega
theorem list_ok {s : RS} (h : s.list.st.wrong = false) : s.wrong = false ∧ 1 ≤ s.list.K ∧ s.list.K + s.list.M ≤ 255 ∧ 1 ≤ s.list.C ∧ s.list.C ≤ 64 ∧ 1 ≤ s.list.V ∧ s.list.V ≤ 16 := by
  unfold RS.list at h ⊢
  simp only at h ⊢
  have h5 := num_ok (ents_ok _ _ _ _ _ h)
  have h4 := num_ok h5.1
  have h3 := num_ok h4.1
  have h2 := num_ok h3.1
  have h1 := num_ok h2.1
  have h0 := word_ok h1.1
  refine ⟨h0, h1.2.1, ?_, h3.2.1, ?_, h4.2.1, ?_⟩
  · have := h2.2.2; omega
  · have := h3.2.2; omega
  · have := h4.2.2; omega
/-- the text stays, the place goes on -/
def Adv (s s' : RS) : Prop := s'.text = s.text ∧ s.next ≤ s'.next
theorem Adv.trans {a b c : RS} (h : Adv a b) (h2 : Adv b c) : Adv a c := ⟨h2.1.trans h.1, Nat.le_trans h.2 h2.2⟩
theorem num_adv (s : RS) (lo : Nat) (hi : Int) : Adv s (s.num lo hi).1 := by
  unfold RS.num
  split
  · exact ⟨rfl, Nat.le_refl _⟩
  · split
    · exact ⟨rfl, Nat.le_refl _⟩
    · exact ⟨rfl, Nat.le_add_right _ _⟩
theorem bytes_adv (s : RS) (n : Nat) : Adv s (s.bytes n).1 := by
  unfold RS.bytes
  split
  · exact ⟨rfl, Nat.le_refl _⟩
  · split
    · exact ⟨rfl, Nat.le_refl _⟩
    · exact ⟨rfl, Nat.le_add_right _ _⟩
theorem word_adv (s : RS) (t : ByteArray) : Adv s (s.word t) := by
  unfold RS.word
  split
  · exact bytes_adv s _
  · exact bytes_adv s _
theorem entry_adv (s : RS) (b : ByteArray) (l : Int) : Adv s (s.entry b l).1 := by
  have h1 : Adv s ((s.num 1 255).1.bytes (s.num 1 255).2).1 := (num_adv s 1 255).trans (bytes_adv _ _)
  have h2 : Adv s (if leT ((s.num 1 255).1.bytes (s.num 1 255).2).2 b then ((s.num 1 255).1.bytes (s.num 1 255).2).1.refuse else ((s.num 1 255).1.bytes (s.num 1 255).2).1) := by
    split
    · exact h1
    · exact h1
  exact h2.trans (num_adv _ 0 l)
theorem ents_adv : ∀ (k : Nat) (s : RS) (nm : ByteArray) (left : Int) (acc : List (ByteArray × Nat)), Adv s (RS.ents k s nm left acc).1
  | 0, _, _, _, _ => ⟨rfl, Nat.le_refl _⟩
  | k + 1, s, nm, left, _ => (entry_adv s nm left).trans (ents_adv k _ _ _ _)
theorem list_adv (s : RS) : Adv s s.list.st := by
  unfold RS.list
  exact (word_adv s _).trans ((num_adv _ _ _).trans ((num_adv _ _ _).trans ((num_adv _ _ _).trans ((num_adv _ _ _).trans ((num_adv _ _ _).trans (ents_adv _ _ _ _ _))))))
/-- all that is told ahead of the check -/
structure TT where
  st : RS
  root : ByteArray
  lst : ByteArray
  L : LT
  num : Nat
  lv : ByteArray
def LT.cnt (l : LT) : Nat := nst (l.K * l.C) (lenE l.es) * (l.K + l.M)
def RS.told (s : RS) : TT :=
  let s0 := s.word ⟨#[86, 79, 76, 49]⟩
  let a := s0.bytes 32
  let l := a.1.list
  let b := l.st.num 0 ((l.V : Int) - 1)
  let c := (if 512 < l.cnt then b.1.refuse else b.1).bytes (l.cnt * 32)
  if b.1.wrong then ⟨b.1, a.2, l.st.text.extract a.1.next l.st.next, l, b.2, ⟨#[]⟩⟩ else ⟨c.1, a.2, l.st.text.extract a.1.next l.st.next, l, b.2, c.2⟩
end Go.Proofs.YtadinjaocnlglaaGreatDoor
