/-
  The walks of mark, fullTexts, keepTexts, looks.
-/
import Derived.Test.YtadinjaocnlglaaGreatDoorZ05
import Derived.Test.YtadinjaocnlglaaGreatDoorZ10
import Derived.ArgAppend
import Derived.Maps.AppendAt
import Derived.BigRegion
import Derived.BigQuiet
import Derived.Deep.QuietTactic
import Derived.Deep.RegionWith
import Derived.Deep.RegionHeld3
import Derived.Deep.RegionLawGrows
namespace Go.Proofs.YtadinjaocnlglaaGreatDoor
open Go.RowKit
set_option maxRecDepth 100000
set_option maxHeartbeats 1000000
theorem mark_any (n : Nat) (w : World) (_hn : n ≤ 1000000000000) :
    Calls Tryz.prog 147 #[.int .i64 n] w fun e w' => ∃ s, e = .returned (.string s) ∧ Below w.heap.size w w' := by
  have hcv := run_convert_bytes_arg (P := Tryz.prog) (w.alloc (Obj.cells #[Value.int IntKind.u8 (↑n % 256), Value.int IntKind.u8 (↑n / 256 % 256), Value.int IntKind.u8 (↑n / 65536 % 256)] 5)) 165 5 Tryz.underlying165 Tryz.underlying5 w.heap.size 0 3 3 [(n : Int) % 256, (n : Int) / 256 % 256, (n : Int) / 65536 % 256] rfl (fun i hi => by
    rw [Nat.zero_add, cell_of_row _ _ _ _ 5 _ (heap_alloc_new w _)]
    match i, hi with
    | 0, _ => rfl
    | 1, _ => rfl
    | 2, _ => rfl) 9 Tryz.underlying9
  obtain ⟨s, hs⟩ : ∃ s, s = strOfNums [(n : Int) % 256, (n : Int) / 256 % 256, (n : Int) / 65536 % 256] := ⟨_, rfl⟩
  have hsz : s.size = 3 := by rw [hs, strOfNums_size]; rfl
  rw [← hs] at hcv
  clear hs
  go_enter Tryz.func147, Tryz.ntmps147
  go_wp2
  go_ret
  exact ⟨_, rfl, (Below.refl _ _).alloc (Nat.le_refl _) _⟩
/-- the first k texts are m -/
def FullRow (w : World) (a : Option Addr) (k : Nat) (m : ByteArray) : Prop := k = 0 ∨ ∃ g cur, a = some ⟨g, 0, none⟩ ∧ w.heap[g]? = some (.cells cur 9 (0, 0)) ∧ ∀ i, i < k → cur[i]? = some (.string m)
/-- a list that reads as its owner wrote it -/
def Full (w : World) (v : Value) (m : ByteArray) : Prop := ∃ a n c, v = .slice a n c ∧ n ≤ 1000000000000 ∧ FullRow w a n m
/-- rows of whatever type but a Book's and its Texts' are left alone -/
def Kp (w w' : World) : Prop := ∀ (q : Nat) (cur : Array Value) (t : TypeId), t ≠ 34 → t ≠ 191 → w.heap[q]? = some (.cells cur t (0, 0)) → w'.heap[q]? = some (.cells cur t (0, 0))
/-- what keeping leaves alone: all that was there but the list itself, the book and its row -/
def KpX (g B : Nat) (v : Value) (w w' : World) : Prop := ∀ q, q < w.heap.size → q ≠ g → q ≠ B → v.ownBlock ≠ some q → w'.heap[q]? = w.heap[q]?
theorem Kp.refl (w : World) : Kp w w := fun _ _ _ _ _ h => h
theorem Kp.trans {a b c : World} (h : Kp a b) (h2 : Kp b c) : Kp a c := fun q cur t h29 h53 hq => h2 q cur t h29 h53 (h q cur t h29 h53 hq)
theorem Kp.below {w w' : World} (h : Below w.heap.size w w') : Kp w w' := fun q cur t _ _ hq => by rw [h.block q (Array.getElem?_eq_some_iff.1 hq).1]; exact hq
theorem Kp.set {w : World} {B : Nat} {c : Array Value} {t : TypeId} {z : Nat × Nat} (h : w.heap[B]? = some (.cells c t z)) (ht : t = 34 ∨ t = 191) (i : Nat) (v : Value) : Kp w (w.setCell ⟨B, i, none⟩ v) := fun q cur t' h29 h53 hq => by
  rw [heap_setCell_other w ⟨B, i, none⟩ q v (by intro e; subst e; rw [h] at hq; simp at hq; rcases ht with ht | ht; exact h29 (hq.2.1 ▸ ht); exact h53 (hq.2.1 ▸ ht))]; exact hq
theorem FullRow.kp {w w' : World} {a : Option Addr} {k : Nat} {m : ByteArray} (h : FullRow w a k m) (hk : Kp w w') : FullRow w' a k m := by
  rcases h with h | ⟨g, cur, h1, h2, h3⟩
  · exact .inl h
  · exact .inr ⟨g, cur, h1, hk g cur 9 (by decide) (by decide) h2, h3⟩
theorem Full.kp {w w' : World} {v : Value} {m : ByteArray} (h : Full w v m) (hk : Kp w w') : Full w' v m := by
  obtain ⟨a, n, c, h1, h2, h3⟩ := h
  exact ⟨a, n, c, h1, h2, h3.kp hk⟩
theorem full_lt {w : World} {a : Option Addr} {n c : Nat} {m : ByteArray} (h : Full w (.slice a n c) m) (hn : 0 < n) : ∀ q, (Value.slice a n c).ownBlock = some q → q < w.heap.size := by
  intro q hq
  obtain ⟨a', n', c', h1, h2, h3⟩ := h
  cases h1
  rcases h3 with h3 | ⟨g, cur, rfl, h4, _⟩
  · omega
  · injection hq with hq
    subst hq
    exact (Array.getElem?_eq_some_iff.1 h4).1
theorem full_any (v : Value) (m : ByteArray) (w : World) (h : Full w v m) :
    Calls Tryz.prog 94 #[v, .string m] w fun e w' => e = .returned (.bool true) ∧ ∃ q, w' = w.drewN q := by
  obtain ⟨a, n, c, rfl, hn, h⟩ := h
  have HC : Hid (∀ i, i < n → ∃ g, a = some ⟨g, 0, none⟩ ∧ w.cell? ⟨g, i, none⟩ = some (.string m)) := by
    intro i hi
    rcases h with h0 | ⟨g, cur, ha, hh, hc⟩
    · omega
    · exact ⟨g, ha, by rw [cell_of_row _ _ _ _ 9 _ hh]; exact hc i hi⟩
  clear h
  go_enter Tryz.func94, Tryz.ntmps94
  go_wp2
  go_loopw [5] (fun iv wr => ∃ i q : Nat, i ≤ n ∧ iv = .int .i64 i ∧ wr = w.drewN q) (fun iv _ => n - (intOf iv).toNat)
  case atStart => exact ⟨0, 0, by omega, rfl, rfl⟩
  case round =>
    obtain ⟨i, q, hi, rfl, hq⟩ := hrel
    by_cases hlt : i < n
    · obtain ⟨g, ha, hc⟩ := HC.out i hlt
      subst ha
      have c1 : wr.cell? ⟨g, i, none⟩ = some (.string m) := by rw [hq]; exact hc
      have HQ : Hid _ := hq
      clear hq hc
      have hi0' : (0 : Int) ≤ (i : Int) := by omega
      have hin' : (i : Int) < (n : Int) := by omega
      go_wp2
      go_roundw
      case rel => exact ⟨i + 1, q, by omega, by go_num, HQ.out⟩
      case measure => simp [intOf]; omega
    · go_wp2
      go_ret
      exact ⟨rfl, q, rfl⟩
theorem infoTx : (Tryz.prog.info? 191).map (fun i => (i.zero, i.size, i.bytes)) = some (some (.agg #[.slice none 0 0, .slice none 0 0, .slice none 0 0, .slice none 0 0, .string ⟨#[]⟩]), 5, 112) := by kernel_rfl
theorem info9' : (Tryz.prog.info? 9).map (fun i => (i.zero, i.size, i.bytes)) = some (some (.string ⟨#[]⟩), 1, 16) := info9
theorem two_str (w : World) (m : ByteArray) (t : TypeId) : ∀ j u, [Value.string m, .string m][j]? = some u → (w.alloc (.cells #[.string m, .string m] t)).cell? ((⟨w.heap.size, 0, none⟩ : Addr).add j) = some u := by
  intro j u hj
  have e : ((⟨w.heap.size, 0, none⟩ : Addr).add j) = ⟨w.heap.size, j, none⟩ := by simp [Addr.add]; exact fun h => h.symm
  rw [e, cell_of_row _ _ _ _ t _ (heap_alloc_new w _)]
  match j with
  | 0 => exact hj
  | 1 => exact hj
  | j + 2 => simp at hj
theorem three_str (w : World) (m : ByteArray) (t : TypeId) : ∀ j u, [Value.string m, .string m, .string m][j]? = some u → (w.alloc (.cells #[.string m, .string m, .string m] t)).cell? ((⟨w.heap.size, 0, none⟩ : Addr).add j) = some u := by
  intro j u hj
  have e : ((⟨w.heap.size, 0, none⟩ : Addr).add j) = ⟨w.heap.size, j, none⟩ := by simp [Addr.add]; exact fun h => h.symm
  rw [e, cell_of_row _ _ _ _ t _ (heap_alloc_new w _)]
  match j with
  | 0 => exact hj
  | 1 => exact hj
  | 2 => exact hj
  | j + 3 => simp at hj
theorem reps_one (n : Nat) (m : ByteArray) : ∀ u ∈ List.replicate n (Value.string m), u.oneCell' = true := by
  intro u hu; rw [(List.mem_replicate.1 hu).2]; rfl
theorem olds_ok {w : World} {a : Option Addr} {k : Nat} {m : ByteArray} (h : FullRow w a k m) : ∀ b, a = some b → ∀ j u, (List.replicate k (Value.string m))[j]? = some u → w.cell? (b.add j) = some u := by
  intro b hb j u hj
  have hjk : j < k := by
    rcases Nat.lt_or_ge j k with h | h
    · exact h
    · simp [h] at hj
  have hu : Value.string m = u := by simpa [hjk] using hj
  rcases h with h | ⟨g, cur, ha, hh, hc⟩
  · omega
  · rw [ha] at hb
    obtain rfl := Option.some.inj hb
    have e : ((⟨g, 0, none⟩ : Addr).add j) = ⟨g, j, none⟩ := by simp [Addr.add]; exact fun h => h.symm
    rw [e, cell_of_row _ _ _ _ 9 _ hh, hc j hjk, hu]
theorem own_full {w : World} {B n k : Nat} {v : Value} {m : ByteArray} (h : w.ownsRow B 9 1 v n (List.replicate k (.string m))) (hk : n = k) (hn : n ≤ 1000000000000) : Full w v m := by
  rcases h.2 with ⟨h1, h'⟩ | ⟨g, cap, cur, hv, hb, hh, hcap, _, hcs, htk⟩
  · exact ⟨none, 0, 0, h1, by omega, .inl rfl⟩
  · refine ⟨some ⟨g, 0, none⟩, n, cap, hv, hn, .inr ⟨g, cur, rfl, hh, fun i hi => ?_⟩⟩
    subst hv
    have := h.cellAt i (by omega)
    rw [cell_of_row _ _ _ _ 9 _ hh] at this
    rw [this]
    simp [show i < k by omega]
/-- what is kept of one list -/
structure En where
  l : Value
  a : Value
  b : Value
  c : Value
  m : ByteArray
def En.vals (e : En) : List Value := [e.l, e.a, e.b, e.c, .string e.m]
def En.ok (w : World) (e : En) : Prop := Full w e.l e.m ∧ Full w e.a e.m ∧ Full w e.b e.m ∧ Full w e.c e.m
theorem En.ok.kp {w w' : World} {e : En} (h : e.ok w) (hk : Kp w w') : e.ok w' := ⟨h.1.kp hk, h.2.1.kp hk, h.2.2.1.kp hk, h.2.2.2.kp hk⟩
/-- its rows -/
def En.has (e : En) (q : Nat) : Prop := e.l.ownBlock = some q ∨ e.a.ownBlock = some q ∨ e.b.ownBlock = some q ∨ e.c.ownBlock = some q
theorem own_same {w w' : World} {base : Nat} {e : TypeId} {size : Nat} {v : Value} {n : Nat} {xs : List Value} (h : w.ownsRow base e size v n xs) (hb : ∀ q, v.ownBlock = some q → w'.heap[q]? = w.heap[q]?) : w'.ownsRow base e size v n xs := by
  refine ⟨h.1, ?_⟩
  rcases h.2 with h2 | ⟨g, cap, cur, hv, hg, hh, rest⟩
  · exact .inl h2
  · exact .inr ⟨g, cap, cur, hv, hg, by rw [hb g (by rw [hv]; rfl)]; exact hh, rest⟩
theorem own_type {w : World} {base : Nat} {e : TypeId} {size : Nat} {v : Value} {n : Nat} {xs : List Value} (h : w.ownsRow base e size v n xs) : ∀ q, v.ownBlock = some q → ∃ cur, w.heap[q]? = some (.cells cur e (0, 0)) := by
  intro q hq
  rcases h.2 with ⟨h', _⟩ | ⟨g, cap, cur, hv, hg, hh, _⟩
  · rw [h'] at hq; simp [Value.ownBlock] at hq
  · rw [hv] at hq; simp [Value.ownBlock] at hq; subst hq; exact ⟨cur, hh⟩
theorem five_one (a b c d : Option Addr) (i1 i2 i3 i4 j1 j2 j3 j4 : Nat) (m : ByteArray) : ∀ u ∈ [Value.slice a i1 j1, Value.slice b i2 j2, Value.slice c i3 j3, Value.slice d i4 j4, Value.string m], u.oneCell' = true := by
  intro u hu; simp at hu; rcases hu with rfl | rfl | rfl | rfl | rfl <;> rfl
theorem five_new (w : World) (a b c d e : Value) (t : TypeId) : ∀ j u, [a, b, c, d, e][j]? = some u → (w.alloc (.cells #[a, b, c, d, e] t)).cell? ((⟨w.heap.size, 0, none⟩ : Addr).add j) = some u := by
  intro j u hj
  have e : ((⟨w.heap.size, 0, none⟩ : Addr).add j) = ⟨w.heap.size, j, none⟩ := by simp [Addr.add]; exact fun h => h.symm
  rw [e, cell_of_row _ _ _ _ t _ (heap_alloc_new w _)]
  match j with
  | 0 => exact hj
  | 1 => exact hj
  | 2 => exact hj
  | 3 => exact hj
  | 4 => exact hj
  | j + 5 => simp at hj
theorem grown_block {w w' : World} {o : Obj} {row : Option Nat} (h : (w.alloc o).drew.grownBy w' row) (B : Nat) (hB : B < w.heap.size) (hr : ∀ q, row = some q → q ≠ B) : w'.heap[B]? = w.heap[B]? := by
  rw [h.block B (by show B < (w.alloc o).heap.size; simp; omega) (fun e => hr B e.symm rfl)]
  exact Below.heap_alloc w o B hB
def flat (X : List En) : List Value := X.flatMap En.vals
set_option maxHeartbeats 4000000 in
theorem keep_any (l0 lo : Value) (X : List En) (B n base : Nat) (v : Value) (a : Option Addr) (g k : Nat) (f : Nat → Value) (w0 w : World) (hbB : base ≤ B) (hbg : base ≤ g) (hg0 : w0.heap.size ≤ g) (hgw : base ≤ w.heap.size)
    (hB : w.heap[B]? = some (.cells #[l0, .int .i64 n, v, .slice none 0 0, .slice none 0 0, .slice none 0 0, lo] 34 (0, 0)))
    (hn : n ≤ 1000000000) (hXl : X.length ≤ 1000000000) (hv : w.ownsRow base 191 5 v X.length (flat X)) (hK0 : Kp w0 w)
    (ha : (a = none ∧ k = 0) ∨ (a = some ⟨g, 0, none⟩ ∧ Rw w g k 9 f)) (hk : k ≤ 1000000000) :
    Calls Tryz.prog 100 #[.pointer (some ⟨B, 1, none⟩), .slice a k k] w fun e w' => e = .returned (.tuple #[]) ∧ ∃ v' x, w'.heap[B]? = some (.cells #[l0, .int .i64 (n + 1 : Nat), v', .slice none 0 0, .slice none 0 0, .slice none 0 0, lo] 34 (0, 0)) ∧ w'.ownsRow base 191 5 v' (X.length + 1) (flat (X ++ [x])) ∧ x.ok w' ∧ Kp w0 w' ∧ KpX g B v w w' ∧ Below base w w' ∧ (v'.ownBlock = v.ownBlock ∨ ∃ q, v'.ownBlock = some q ∧ w.heap.size ≤ q) ∧ (∀ q, x.has q → (q = g ∨ w.heap.size ≤ q) ∧ q < w'.heap.size) := by
  obtain ⟨i0, hi9, hz0, hz1, hz2⟩ := info_parts info9
  have HAG : Hid (a = none ∨ (a = some ⟨g, 0, none⟩ ∧ g < w.heap.size)) := by
    rcases ha with h | h
    · exact .inl h.1
    · exact .inr ⟨h.1, h.2.lt⟩
  have HN : Hid (a = none → k = 0 ∧ k = 0) := fun e => by rcases ha with h | h; exact ⟨h.2, h.2⟩; rw [e] at h; simp at h
  have o0 : w.cell? ⟨B, 1, none⟩ = some (.int .i64 n) := cell_of_row _ _ _ _ 34 _ hB
  have f0 : w.frozen? ⟨B, 1, none⟩ = false := frozen_of_row w B 1 _ 34 hB
  have HV : Hid _ := hv
  have HK0 : Hid (Kp w0 w) := hK0
  clear hv hK0
  go_enter Tryz.func100, Tryz.ntmps100
  go_wp2_with fail
  obtain ⟨w1, hw1⟩ : ∃ w1, w1 = w.setCell ⟨B, 1, none⟩ (.int .i64 ((n : Int) + 1)) := ⟨_, rfl⟩
  rw [← hw1]
  have hB1 : w1.heap[B]? = some (.cells #[l0, .int .i64 ((n : Int) + 1), v, .slice none 0 0, .slice none 0 0, .slice none 0 0, lo] 34 (0, 0)) := by
    rw [hw1]; exact heap_setCell_same w B 1 _ 34 _ hB
  have hK1 : Kp w w1 := by rw [hw1]; exact Kp.set hB (by decide) _ _
  have hX1 : KpX g B v w w1 := fun q _ _ h _ => by rw [hw1, heap_setCell_other w ⟨B, 1, none⟩ q _ (by simpa using h)]
  have hv1 : w1.ownsRow base 191 5 v X.length (flat X) := by
    rw [hw1]
    refine ownsRow_setCell_other HV.out (fun e => ?_) _
    rcases HV.out.2 with ⟨h', _⟩ | ⟨g', cap', cur, h', hb', hh', _⟩
    · rw [h'] at e; simp [Value.ownBlock] at e
    · rw [h'] at e; simp [Value.ownBlock] at e; subst e; rw [hB] at hh'; simp at hh'
  have hbl1 : Below base w w1 := by rw [hw1]; exact (Below.refl _ _).setCell (by simpa using hbB) _
  have ha1 : (a = none ∧ k = 0) ∨ (a = some ⟨g, 0, none⟩ ∧ Rw w1 g k 9 f) := by
    rcases ha with h | ⟨h, hR⟩
    · exact .inl h
    · exact .inr ⟨h, hK1 _ _ 9 (by decide) (by decide) hR⟩
  have hs1 : w1.heap.size = w.heap.size := by rw [hw1]; simp
  clear hw1 o0 f0 hB ha HV
  rw [show ((n : Int) + 1) = ((n + 1 : Nat) : Int) by omega]
  refine (mark_any (n + 1) w1 (by omega)).mono ?_
  rintro e w2 ⟨m, rfl, hB2⟩
  have HB1 : Hid (w2.heap[B]? = some (.cells #[l0, .int .i64 ((n : Int) + 1), v, .slice none 0 0, .slice none 0 0, .slice none 0 0, lo] 34 (0, 0))) := by
    show w2.heap[B]? = _
    rw [hB2.block B (Array.getElem?_eq_some_iff.1 hB1).1]; exact hB1
  have HA2 : Hid ((a = none ∧ k = 0) ∨ (a = some ⟨g, 0, none⟩ ∧ Rw w2 g k 9 f)) := by
    rcases ha1 with h | ⟨h, hR⟩
    · exact .inl h
    · exact .inr ⟨h, hR.below hB2 hR.lt⟩
  have HV2 : Hid (w2.ownsRow base 191 5 v X.length (flat X)) := own_below hv1 hB2
  have HBL2 : Hid (Below base w w2) := hbl1.trans (hB2.mono (by rw [hs1]; exact hgw))
  have HK2 : Hid (Kp w0 w2) := (HK0.out.trans hK1).trans (Kp.below hB2)
  have HKW2 : Hid (KpX g B v w w2) := fun q h1 h2 h3 h4 => by rw [hB2.block q (by rw [hs1]; exact h1)]; exact hX1 q h1 h2 h3 h4
  clear hB1 hv1 hB2 ha1 hbl1 hK1 hX1 hs1 HK0
  go_wp2
  go_loopw [5] (fun iv wr => ∃ i : Nat, i ≤ k ∧ iv = .int .i64 i ∧ ((a = none ∧ k = 0) ∨ (a = some ⟨g, 0, none⟩ ∧ Rw wr g k 9 (fun j => if j < i then .string m else f j))) ∧ (∀ q, q ≠ g ∨ a = none → wr.heap[q]? = w2.heap[q]?) ∧ Below base w2 wr) (fun iv _ => k - (intOf iv).toNat)
  case atStart =>
    refine ⟨0, by omega, rfl, ?_, fun _ _ => rfl, Below.refl _ _⟩
    rcases HA2.out with h | ⟨h, hR⟩
    · exact .inl h
    · exact .inr ⟨h, hR.to (fun j _ => by simp)⟩
  case round =>
    obtain ⟨i, hi, rfl, hA, hO, hBr⟩ := hrel
    by_cases hlt : i < k
    · obtain ⟨h1, hR⟩ : a = some ⟨g, 0, none⟩ ∧ Rw wr g k 9 (fun j => if j < i then .string m else f j) := by
        rcases hA with h | h
        · omega
        · exact h
      subst h1
      have c1 := hR.cell i hlt
      have f1 := hR.free i
      have HR3 : Hid (Rw (wr.setCell ⟨g, i, none⟩ (.string m)) g k 9 (fun j => if j < i + 1 then .string m else f j)) := (hR.put i _).to (fun j _ => by
        unfold updV
        by_cases h : j = i
        · rw [if_pos h, if_pos (by omega)]
        · rw [if_neg h]
          by_cases h2 : j < i
          · simp only [if_pos h2]; rw [if_pos (by omega)]
          · simp only [if_neg h2]; rw [if_neg (by omega)])
      have HO3 : Hid (∀ q, q ≠ g ∨ (some (⟨g, 0, none⟩ : Addr)) = none → (wr.setCell ⟨g, i, none⟩ (.string m)).heap[q]? = w2.heap[q]?) := fun q hq => by
        have hq' : q ≠ g := by rcases hq with h | h; exact h; simp at h
        rw [heap_setCell_other wr ⟨g, i, none⟩ q _ (by simpa using hq')]; exact hO q (.inl hq')
      have HB3 : Hid (Below base w2 (wr.setCell ⟨g, i, none⟩ (.string m))) := hBr.setCell (by simpa using hbg) _
      clear hR hO hBr hA
      go_wp2
      go_roundw
      case rel => exact ⟨i + 1, by omega, by go_num, .inr ⟨trivial, HR3.out⟩, HO3.out, HB3.out⟩
      case measure => simp [intOf]; omega
    · have e : i = k := by omega
      subst e
      have HF : Hid (FullRow wr a i m) := by
        show FullRow wr a i m
        rcases hA with h | ⟨h, hR⟩
        · exact .inl h.2
        · exact .inr ⟨g, _, h, hR, fun j hj => by rw [rowV_get _ _ _ hj]; simp [hj]⟩
      have hBg : B ≠ g ∨ a = none := by
        rcases HA2.out with h | ⟨h, hR⟩
        · exact .inr h.1
        · refine .inl (fun e => ?_)
          have h2 := HB1.out
          rw [e] at h2
          unfold Rw at hR
          rw [h2] at hR; simp at hR
      have HBr : Hid (wr.heap[B]? = some (.cells #[l0, .int .i64 ((n : Int) + 1), v, .slice none 0 0, .slice none 0 0, .slice none 0 0, lo] 34 (0, 0))) := by
        show wr.heap[B]? = _
        rw [hO B hBg]; exact HB1.out
      have HVr : Hid (wr.ownsRow base 191 5 v X.length (flat X)) := own_same HV2.out (fun q hq => hO q (by
        obtain ⟨cur, hc⟩ := own_type HV2.out q hq
        rcases HA2.out with h | ⟨h, hR⟩
        · exact .inr h.1
        · refine .inl (fun e => ?_)
          rw [e] at hc
          unfold Rw at hR
          rw [hc] at hR; simp at hR))
      have HKr : Hid (Kp w0 wr) := fun q cur t h29 h53 hq => by
        have hlt0 := (Array.getElem?_eq_some_iff.1 hq).1
        rw [hO q (.inl (by omega))]; exact HK2.out q cur t h29 h53 hq
      have HKXr : Hid (KpX g B v w wr) := fun q h1 h2 h3 h4 => by rw [hO q (.inl h2)]; exact HKW2.out q h1 h2 h3 h4
      have HBLr : Hid (Below base w wr) := HBL2.out.trans hBr
      clear hA hO hBr hBg HB1 HV2 HK2 HBL2 HA2
      have HX0 : Hid ((wr.alloc (Obj.cells #[Value.slice a i i, Value.slice none 0 0, Value.slice none 0 0, Value.slice none 0 0, Value.string m] 191)).heap[wr.heap.size]? = some (.cells #[Value.slice a i i, Value.slice none 0 0, Value.slice none 0 0, Value.slice none 0 0, Value.string m] 191 (0, 0))) := heap_alloc_new _ _
      have HK1 : Hid (Kp wr (wr.alloc (Obj.cells #[Value.slice a i i, Value.slice none 0 0, Value.slice none 0 0, Value.slice none 0 0, Value.string m] 191))) := Kp.below ((Below.refl _ _).alloc (Nat.le_refl _) _)
      have HF1' : Hid (FullRow ((wr.alloc (Obj.cells #[Value.slice a i i, Value.slice none 0 0, Value.slice none 0 0, Value.slice none 0 0, Value.string m] 191)).alloc (Obj.cells #[Value.string m] 9)) a i m) := HF.out.kp (HK1.out.trans (Kp.below ((Below.refl _ _).alloc (Nat.le_refl _) _)))
      have HNW1 : Hid (∀ j u, [Value.string m][j]? = some u → ((wr.alloc (Obj.cells #[Value.slice a i i, Value.slice none 0 0, Value.slice none 0 0, Value.slice none 0 0, Value.string m] 191)).alloc (Obj.cells #[Value.string m] 9)).cell? ((⟨wr.heap.size + 1, 0, none⟩ : Addr).add j) = some u) := by
        have h := cell_one_new (wr.alloc (Obj.cells #[Value.slice a i i, Value.slice none 0 0, Value.slice none 0 0, Value.slice none 0 0, Value.string m] 191)) (.string m) 9
        have e : (wr.alloc (Obj.cells #[Value.slice a i i, Value.slice none 0 0, Value.slice none 0 0, Value.slice none 0 0, Value.string m] 191)).heap.size = wr.heap.size + 1 := by simp
        rw [e] at h
        exact h
      go_wp2_with (at_builtin; refine wpList_append_grows _ rfl (.tmp 32) (.tmp 34) 42 rfl 9 i0 (.string ⟨#[]⟩) 1 16 Tryz.underlying42 hi9 hz0 hz1 hz2 rfl (by decide) a i i (List.replicate i (.string m)) rfl HN.out (by simp) (olds_ok HF1'.out) ⟨wr.heap.size + 1, 0, none⟩ 1 1 [.string m] rfl rfl HNW1.out (reps_one 1 m) (by omega) ?kb1 ?kc1 ?_)
      case kb1 => unfold maxLen; omega
      case kc1 => omega
      intro v1 w4 hown1 hgrow1
      obtain ⟨b1, d1, hv1⟩ := own_shape hown1
      subst hv1
      have HG1 : Hid (∀ q, (Value.slice b1 (i + 1) d1).ownBlock = some q → w.heap.size ≤ q) := fun q hq => by
        have g1 := own_ge hown1 q hq
        have g2 := HBLr.out.size
        try simp at g1
        omega
      have hb1 : Below (wr.alloc (Obj.cells #[Value.slice a i i, Value.slice none 0 0, Value.slice none 0 0, Value.slice none 0 0, Value.string m] 191)).heap.size (wr.alloc (Obj.cells #[Value.slice a i i, Value.slice none 0 0, Value.slice none 0 0, Value.slice none 0 0, Value.string m] 191)) w4 := ((Below.refl _ _).alloc (Nat.le_refl _) _).grown hgrow1 (by simp) (fun _ h => by cases h)
      have hrow1 : w4.heap[wr.heap.size]? = some (.cells #[Value.slice a i i, Value.slice none 0 0, Value.slice none 0 0, Value.slice none 0 0, Value.string m] 191 (0, 0)) := by
        rw [hb1.block _ (by simp)]; exact HX0.out
      have q1 : w4.cell? ⟨wr.heap.size, 1, none⟩ = some (.slice none 0 0) := cell_of_row _ _ _ _ 191 _ hrow1
      have r1 : w4.frozen? ⟨wr.heap.size, 1, none⟩ = false := frozen_of_row _ _ _ _ 191 hrow1
      have HX1 : Hid ((w4.setCell ⟨wr.heap.size, 1, none⟩ (Value.slice b1 (i + 1) d1)).heap[wr.heap.size]? = some (.cells #[Value.slice a i i, (Value.slice b1 (i + 1) d1), Value.slice none 0 0, Value.slice none 0 0, Value.string m] 191 (0, 0))) := heap_setCell_same w4 wr.heap.size 1 _ 191 _ hrow1
      have HK2 : Hid (Kp wr (w4.setCell ⟨wr.heap.size, 1, none⟩ (Value.slice b1 (i + 1) d1))) := (HK1.out.trans (Kp.below hb1)).trans (Kp.set hrow1 (by decide) _ _)
      have HBL1 : Hid (Below (wr.alloc (Obj.cells #[Value.slice a i i, Value.slice none 0 0, Value.slice none 0 0, Value.slice none 0 0, Value.string m] 191)).heap.size (wr.alloc (Obj.cells #[Value.slice a i i, Value.slice none 0 0, Value.slice none 0 0, Value.slice none 0 0, Value.string m] 191)) w4) := hb1
      have HLT2 : Hid (wr.heap.size < w4.heap.size) := (Array.getElem?_eq_some_iff.1 hrow1).1
      have HFU1 : Hid (Full w4 (Value.slice b1 (i + 1) d1) m) := own_full (k := i + 1) (by rw [← List.replicate_append_replicate]; exact hown1) rfl (by omega)
      have HKS1 : Hid (Kp w4 (w4.setCell ⟨wr.heap.size, 1, none⟩ (Value.slice b1 (i + 1) d1))) := Kp.set hrow1 (by decide) _ _
      clear hown1 hgrow1 hb1 hrow1
      have HF2' : Hid (FullRow ((w4.setCell ⟨wr.heap.size, 1, none⟩ (Value.slice b1 (i + 1) d1)).alloc (Obj.cells #[Value.string m, Value.string m] 9)) a i m) := HF.out.kp (HK2.out.trans (Kp.below ((Below.refl _ _).alloc (Nat.le_refl _) _)))
      have HNW2 : Hid (∀ j u, [Value.string m, Value.string m][j]? = some u → ((w4.setCell ⟨wr.heap.size, 1, none⟩ (Value.slice b1 (i + 1) d1)).alloc (Obj.cells #[Value.string m, Value.string m] 9)).cell? ((⟨w4.heap.size, 0, none⟩ : Addr).add j) = some u) := by
        have h := two_str (w4.setCell ⟨wr.heap.size, 1, none⟩ (Value.slice b1 (i + 1) d1)) m 9
        have e : (w4.setCell ⟨wr.heap.size, 1, none⟩ (Value.slice b1 (i + 1) d1)).heap.size = w4.heap.size := by simp
        rw [e] at h
        exact h
      go_wp2_with (at_builtin; refine wpList_append_grows _ rfl (.tmp 37) (.tmp 40) 42 rfl 9 i0 (.string ⟨#[]⟩) 1 16 Tryz.underlying42 hi9 hz0 hz1 hz2 rfl (by decide) a i i (List.replicate i (.string m)) rfl HN.out (by simp) (olds_ok HF2'.out) ⟨w4.heap.size, 0, none⟩ 2 2 [.string m, .string m] rfl rfl HNW2.out (reps_one 2 m) (by omega) ?kb2 ?kc2 ?_)
      case kb2 => unfold maxLen; omega
      case kc2 => omega
      intro v2 w5 hown2 hgrow2
      obtain ⟨b2, d2, hv2⟩ := own_shape hown2
      subst hv2
      have HG2 : Hid (∀ q, (Value.slice b2 (i + 2) d2).ownBlock = some q → w.heap.size ≤ q) := fun q hq => by
        have g1 := own_ge hown2 q hq
        have g2 := HBLr.out.size
        have g3 := HLT2.out
        try simp at g1
        omega
      have hb2 : Below (w4.setCell ⟨wr.heap.size, 1, none⟩ (Value.slice b1 (i + 1) d1)).heap.size (w4.setCell ⟨wr.heap.size, 1, none⟩ (Value.slice b1 (i + 1) d1)) w5 := ((Below.refl _ _).alloc (Nat.le_refl _) _).grown hgrow2 (by simp) (fun _ h => by cases h)
      have hrow2 : w5.heap[wr.heap.size]? = some (.cells #[Value.slice a i i, (Value.slice b1 (i + 1) d1), Value.slice none 0 0, Value.slice none 0 0, Value.string m] 191 (0, 0)) := by
        rw [hb2.block _ (by simp; have := HLT2.out; omega)]; exact HX1.out
      have q2 : w5.cell? ⟨wr.heap.size, 2, none⟩ = some (.slice none 0 0) := cell_of_row _ _ _ _ 191 _ hrow2
      have r2 : w5.frozen? ⟨wr.heap.size, 2, none⟩ = false := frozen_of_row _ _ _ _ 191 hrow2
      have HX2 : Hid ((w5.setCell ⟨wr.heap.size, 2, none⟩ (Value.slice b2 (i + 2) d2)).heap[wr.heap.size]? = some (.cells #[Value.slice a i i, (Value.slice b1 (i + 1) d1), (Value.slice b2 (i + 2) d2), Value.slice none 0 0, Value.string m] 191 (0, 0))) := heap_setCell_same w5 wr.heap.size 2 _ 191 _ hrow2
      have HK3 : Hid (Kp wr (w5.setCell ⟨wr.heap.size, 2, none⟩ (Value.slice b2 (i + 2) d2))) := (HK2.out.trans (Kp.below hb2)).trans (Kp.set hrow2 (by decide) _ _)
      have HBL2 : Hid (Below (w4.setCell ⟨wr.heap.size, 1, none⟩ (Value.slice b1 (i + 1) d1)).heap.size (w4.setCell ⟨wr.heap.size, 1, none⟩ (Value.slice b1 (i + 1) d1)) w5) := hb2
      have HLT3 : Hid (wr.heap.size < w5.heap.size) := (Array.getElem?_eq_some_iff.1 hrow2).1
      have HFU2 : Hid (Full w5 (Value.slice b2 (i + 2) d2) m) := own_full (k := i + 2) (by rw [← List.replicate_append_replicate]; exact hown2) rfl (by omega)
      have HKB2 : Hid (Kp (w4.setCell ⟨wr.heap.size, 1, none⟩ (Value.slice b1 (i + 1) d1)) w5) := Kp.below hb2
      have HKS2 : Hid (Kp w5 (w5.setCell ⟨wr.heap.size, 2, none⟩ (Value.slice b2 (i + 2) d2))) := Kp.set hrow2 (by decide) _ _
      clear hown2 hgrow2 hb2 hrow2
      have HF3' : Hid (FullRow ((w5.setCell ⟨wr.heap.size, 2, none⟩ (Value.slice b2 (i + 2) d2)).alloc (Obj.cells #[Value.string m, Value.string m, Value.string m] 9)) a i m) := HF.out.kp (HK3.out.trans (Kp.below ((Below.refl _ _).alloc (Nat.le_refl _) _)))
      have HNW3 : Hid (∀ j u, [Value.string m, Value.string m, Value.string m][j]? = some u → ((w5.setCell ⟨wr.heap.size, 2, none⟩ (Value.slice b2 (i + 2) d2)).alloc (Obj.cells #[Value.string m, Value.string m, Value.string m] 9)).cell? ((⟨w5.heap.size, 0, none⟩ : Addr).add j) = some u) := by
        have h := three_str (w5.setCell ⟨wr.heap.size, 2, none⟩ (Value.slice b2 (i + 2) d2)) m 9
        have e : (w5.setCell ⟨wr.heap.size, 2, none⟩ (Value.slice b2 (i + 2) d2)).heap.size = w5.heap.size := by simp
        rw [e] at h
        exact h
      go_wp2_with (at_builtin; refine wpList_append_grows _ rfl (.tmp 43) (.tmp 47) 42 rfl 9 i0 (.string ⟨#[]⟩) 1 16 Tryz.underlying42 hi9 hz0 hz1 hz2 rfl (by decide) a i i (List.replicate i (.string m)) rfl HN.out (by simp) (olds_ok HF3'.out) ⟨w5.heap.size, 0, none⟩ 3 3 [.string m, .string m, .string m] rfl rfl HNW3.out (reps_one 3 m) (by omega) ?kb3 ?kc3 ?_)
      case kb3 => unfold maxLen; omega
      case kc3 => omega
      intro v3 w6 hown3 hgrow3
      obtain ⟨b3, d3, hv3⟩ := own_shape hown3
      subst hv3
      have HG3 : Hid (∀ q, (Value.slice b3 (i + 3) d3).ownBlock = some q → w.heap.size ≤ q) := fun q hq => by
        have g1 := own_ge hown3 q hq
        have g2 := HBLr.out.size
        have g3 := HLT3.out
        try simp at g1
        omega
      have hb3 : Below (w5.setCell ⟨wr.heap.size, 2, none⟩ (Value.slice b2 (i + 2) d2)).heap.size (w5.setCell ⟨wr.heap.size, 2, none⟩ (Value.slice b2 (i + 2) d2)) w6 := ((Below.refl _ _).alloc (Nat.le_refl _) _).grown hgrow3 (by simp) (fun _ h => by cases h)
      have hrow3 : w6.heap[wr.heap.size]? = some (.cells #[Value.slice a i i, (Value.slice b1 (i + 1) d1), (Value.slice b2 (i + 2) d2), Value.slice none 0 0, Value.string m] 191 (0, 0)) := by
        rw [hb3.block _ (by simp; have := HLT3.out; omega)]; exact HX2.out
      have q3 : w6.cell? ⟨wr.heap.size, 3, none⟩ = some (.slice none 0 0) := cell_of_row _ _ _ _ 191 _ hrow3
      have r3 : w6.frozen? ⟨wr.heap.size, 3, none⟩ = false := frozen_of_row _ _ _ _ 191 hrow3
      have HX3 : Hid ((w6.setCell ⟨wr.heap.size, 3, none⟩ (Value.slice b3 (i + 3) d3)).heap[wr.heap.size]? = some (.cells #[Value.slice a i i, (Value.slice b1 (i + 1) d1), (Value.slice b2 (i + 2) d2), (Value.slice b3 (i + 3) d3), Value.string m] 191 (0, 0))) := heap_setCell_same w6 wr.heap.size 3 _ 191 _ hrow3
      have HK4 : Hid (Kp wr (w6.setCell ⟨wr.heap.size, 3, none⟩ (Value.slice b3 (i + 3) d3))) := (HK3.out.trans (Kp.below hb3)).trans (Kp.set hrow3 (by decide) _ _)
      have HBL3 : Hid (Below (w5.setCell ⟨wr.heap.size, 2, none⟩ (Value.slice b2 (i + 2) d2)).heap.size (w5.setCell ⟨wr.heap.size, 2, none⟩ (Value.slice b2 (i + 2) d2)) w6) := hb3
      have HLT4 : Hid (wr.heap.size < w6.heap.size) := (Array.getElem?_eq_some_iff.1 hrow3).1
      have HFU3 : Hid (Full w6 (Value.slice b3 (i + 3) d3) m) := own_full (k := i + 3) (by rw [← List.replicate_append_replicate]; exact hown3) rfl (by omega)
      have HKB3 : Hid (Kp (w5.setCell ⟨wr.heap.size, 2, none⟩ (Value.slice b2 (i + 2) d2)) w6) := Kp.below hb3
      have HKS3 : Hid (Kp w6 (w6.setCell ⟨wr.heap.size, 3, none⟩ (Value.slice b3 (i + 3) d3))) := Kp.set hrow3 (by decide) _ _
      clear hown3 hgrow3 hb3 hrow3
      go_wp2
      have HBC : Hid (Below wr.heap.size wr (w6.setCell ⟨wr.heap.size, 3, none⟩ (Value.slice b3 (i + 3) d3))) := by
        have s1 : Below wr.heap.size wr (wr.alloc (Obj.cells #[Value.slice a i i, Value.slice none 0 0, Value.slice none 0 0, Value.slice none 0 0, Value.string m] 191)) := (Below.refl _ _).alloc (Nat.le_refl _) _
        have s2 := s1.trans (HBL1.out.mono s1.size)
        have s3 : Below wr.heap.size wr (w4.setCell ⟨wr.heap.size, 1, none⟩ (Value.slice b1 (i + 1) d1)) := s2.setCell (Nat.le_refl _) _
        have s4 := s3.trans (HBL2.out.mono s3.size)
        have s5 : Below wr.heap.size wr (w5.setCell ⟨wr.heap.size, 2, none⟩ (Value.slice b2 (i + 2) d2)) := s4.setCell (Nat.le_refl _) _
        have s6 := s5.trans (HBL3.out.mono s5.size)
        exact s6.setCell (Nat.le_refl _) _
      have HFV1 : Hid (Full (w6.setCell ⟨wr.heap.size, 3, none⟩ (Value.slice b3 (i + 3) d3)) (Value.slice b1 (i + 1) d1) m) := HFU1.out.kp (Kp.trans HKS1.out (Kp.trans HKB2.out (Kp.trans HKS2.out (Kp.trans HKB3.out HKS3.out))))
      have HFV2 : Hid (Full (w6.setCell ⟨wr.heap.size, 3, none⟩ (Value.slice b3 (i + 3) d3)) (Value.slice b2 (i + 2) d2) m) := HFU2.out.kp (Kp.trans HKS2.out (Kp.trans HKB3.out HKS3.out))
      have HFV3 : Hid (Full (w6.setCell ⟨wr.heap.size, 3, none⟩ (Value.slice b3 (i + 3) d3)) (Value.slice b3 (i + 3) d3) m) := HFU3.out.kp HKS3.out
      obtain ⟨w7, hw7⟩ : ∃ w7, w7 = w6.setCell ⟨wr.heap.size, 3, none⟩ (Value.slice b3 (i + 3) d3) := ⟨_, rfl⟩
      rw [← hw7] at HX3 HK4 HBC HFV1 HFV2 HFV3 ⊢
      clear hw7 HX0 HX1 HX2 HK1 HK2 HK3 HBL1 HBL2 HBL3 q1 q2 q3 r1 r2 r3 HFU1 HFU2 HFU3 HF1' HF2' HF3' HNW1 HNW2 HNW3 HLT2 HLT3 HKB2 HKB3 HKS1 HKS2 HKS3
      obtain ⟨x0, hx0⟩ : ∃ x0, x0 = wr.heap.size := ⟨_, rfl⟩
      rw [← hx0] at HX3 HBC HLT4 ⊢
      have HB7 : Hid (w7.heap[B]? = some (.cells #[l0, .int .i64 ((n : Int) + 1), v, .slice none 0 0, .slice none 0 0, .slice none 0 0, lo] 34 (0, 0))) := by
        show w7.heap[B]? = _
        rw [HBC.out.block B (by rw [hx0]; exact (Array.getElem?_eq_some_iff.1 HBr.out).1)]; exact HBr.out
      have HV7 : Hid (w7.ownsRow base 191 5 v X.length (flat X)) := own_below HVr.out (by rw [← hx0]; exact HBC.out)
      have HF7 : Hid (FullRow w7 a i m) := HF.out.kp HK4.out
      have HK7 : Hid (Kp w0 w7) := HKr.out.trans HK4.out
      have HKX7 : Hid (KpX g B v w w7) := fun q h1 h2 h3 h4 => by rw [HBC.out.block q (by rw [hx0]; have := HBLr.out.size; omega)]; exact HKXr.out q h1 h2 h3 h4
      have HBL7 : Hid (Below base w w7) := HBLr.out.trans (HBC.out.mono (by rw [hx0]; have := HBLr.out.size; omega))
      clear hx0 HBC HK4 HKr HBLr HVr HBr HF
      obtain ⟨av, cv, hsv⟩ := own_shape HV7.out
      subst hsv
      have p0 : w7.cell? ⟨B, 2, none⟩ = some (.slice av X.length cv) := cell_of_row _ _ _ _ 34 _ HB7.out
      have p0f : w7.frozen? ⟨B, 2, none⟩ = false := frozen_of_row _ _ _ _ 34 HB7.out
      have e0 : w7.cell? ⟨x0, 0, none⟩ = some (.slice a i i) := cell_of_row _ _ _ _ 191 _ HX3.out
      have e1 : w7.cell? ⟨x0, 1, none⟩ = some (.slice b1 (i + 1) d1) := cell_of_row _ _ _ _ 191 _ HX3.out
      have e2 : w7.cell? ⟨x0, 2, none⟩ = some (.slice b2 (i + 2) d2) := cell_of_row _ _ _ _ 191 _ HX3.out
      have e3 : w7.cell? ⟨x0, 3, none⟩ = some (.slice b3 (i + 3) d3) := cell_of_row _ _ _ _ 191 _ HX3.out
      have e4 : w7.cell? ⟨x0, 4, none⟩ = some (.string m) := cell_of_row _ _ _ _ 191 _ HX3.out
      obtain ⟨j0, hj53, hy0, hy1, hy2⟩ := info_parts infoTx
      have hm1 : X.length + 1 ≤ maxLen := by unfold maxLen; omega
      have hm2 : (X.length + 1) * 112 ≤ 140737488355328 := by omega
      have hgb : base ≤ w7.heap.size := by have := HBL7.out.size; omega
      have hne1 := World.new_ne w7 _ p0
      have hne2 := World.new_ne w7 _ e0
      have HT7 : Hid (∀ q, (Value.slice av X.length cv).ownBlock = some q → q ≠ B) := fun q hq e => by
        obtain ⟨cur, hc⟩ := own_type HV7.out q hq
        have h2 := HB7.out
        rw [← e, hc] at h2; simp at h2
      have hBlt : B < w7.heap.size := (Array.getElem?_eq_some_iff.1 HB7.out).1
      have HEND : Hid (∀ (v8 : Value) (w8 : World), w8.ownsRow base 191 5 v8 (X.length + 1) (flat X ++ [.slice a i i, .slice b1 (i + 1) d1, .slice b2 (i + 2) d2, .slice b3 (i + 3) d3, .string m]) → (w7.alloc (Obj.cells #[Value.slice a i i, Value.slice b1 (i + 1) d1, Value.slice b2 (i + 2) d2, Value.slice b3 (i + 3) d3, Value.string m] 191)).drew.grownBy w8 (Value.slice av X.length cv).ownBlock → (v8.ownBlock = (Value.slice av X.length cv).ownBlock ∨ ∃ q, v8.ownBlock = some q ∧ (w7.alloc (Obj.cells #[Value.slice a i i, Value.slice b1 (i + 1) d1, Value.slice b2 (i + 2) d2, Value.slice b3 (i + 3) d3, Value.string m] 191)).drew.heap.size ≤ q) →
          ∃ v' x, (w8.setCell ⟨B, 2, none⟩ v8).heap[B]? = some (.cells #[l0, .int .i64 (n + 1 : Nat), v', .slice none 0 0, .slice none 0 0, .slice none 0 0, lo] 34 (0, 0)) ∧ (w8.setCell ⟨B, 2, none⟩ v8).ownsRow base 191 5 v' (X.length + 1) (flat (X ++ [x])) ∧ x.ok (w8.setCell ⟨B, 2, none⟩ v8) ∧ Kp w0 (w8.setCell ⟨B, 2, none⟩ v8) ∧ KpX g B (.slice av X.length cv) w (w8.setCell ⟨B, 2, none⟩ v8) ∧ Below base w (w8.setCell ⟨B, 2, none⟩ v8) ∧ (v'.ownBlock = (Value.slice av X.length cv).ownBlock ∨ ∃ q, v'.ownBlock = some q ∧ w.heap.size ≤ q) ∧ (∀ q, x.has q → (q = g ∨ w.heap.size ≤ q) ∧ q < (w8.setCell ⟨B, 2, none⟩ v8).heap.size)) := by
        intro v8 w8 ho hg hq8
        have hB8 := (grown_block hg B hBlt HT7.out).trans HB7.out
        have hK : Kp w7 w8 := fun q cur t h29 h53 hq => by
          rw [grown_block hg q (Array.getElem?_eq_some_iff.1 hq).1 (fun q' hq' e => by
            obtain ⟨cur', hc⟩ := own_type HV7.out q' hq'
            rw [e, hq] at hc; simp at hc; exact h53 hc.2)]
          exact hq
        have hK' : Kp w7 (w8.setCell ⟨B, 2, none⟩ v8) := hK.trans (Kp.set hB8 (by decide) _ _)
        have ho' : (w8.setCell ⟨B, 2, none⟩ v8).ownsRow base 191 5 v8 (X.length + 1) (flat X ++ [.slice a i i, .slice b1 (i + 1) d1, .slice b2 (i + 2) d2, .slice b3 (i + 3) d3, .string m]) := by
          refine ownsRow_setCell_other ho (fun e => ?_) _
          obtain ⟨cur', hc⟩ := own_type ho B e
          rw [hB8] at hc; simp at hc
        have hbel : Below base w (w8.setCell ⟨B, 2, none⟩ v8) := (((HBL7.out.alloc hgb _).drew).grown hg (by show base ≤ (w7.alloc _).heap.size; simp; omega) (fun q hq => own_ge HV7.out q hq)).setCell (by simpa using hbB) _
        refine ⟨v8, ⟨.slice a i i, .slice b1 (i + 1) d1, .slice b2 (i + 2) d2, .slice b3 (i + 3) d3, m⟩, ?_, ?_, ⟨⟨a, i, i, rfl, by omega, HF7.out.kp hK'⟩, HFV1.out.kp hK', HFV2.out.kp hK', HFV3.out.kp hK'⟩, HK7.out.trans hK', ?_, hbel, ?_, ?_⟩
        · rw [show (((n + 1 : Nat)) : Int) = (n : Int) + 1 by omega]
          exact heap_setCell_same w8 B 2 _ 34 _ hB8
        · have e : flat (X ++ [⟨.slice a i i, .slice b1 (i + 1) d1, .slice b2 (i + 2) d2, .slice b3 (i + 3) d3, m⟩]) = flat X ++ [.slice a i i, .slice b1 (i + 1) d1, .slice b2 (i + 2) d2, .slice b3 (i + 3) d3, .string m] := by simp [flat, En.vals]
          rw [e]; exact ho'
        · intro q h1 h2 h3 h4
          have h5 := HBL7.out.size
          rw [heap_setCell_other w8 ⟨B, 2, none⟩ q _ (by simpa using h3), grown_block hg q (by omega) (fun q' hq' e => h4 (by rw [hq', e]))]
          exact HKX7.out q h1 h2 h3 h4
        · rcases hq8 with h | ⟨q, h1, h2⟩
          · exact .inl h
          · refine .inr ⟨q, h1, ?_⟩
            have h5 := HBL7.out.size
            simp at h2
            omega
        · intro q hq
          have h8 : w7.heap.size ≤ (w8.setCell ⟨B, 2, none⟩ v8).heap.size := by
            have := hg.size
            simp at this
            simp [World.setCell]
            omega
          have h9 := HBL7.out.size
          rcases hq with h | h | h | h
          · rcases HAG.out with h1 | ⟨h1, h2⟩
            · rw [h1] at h; cases h
            · rw [h1] at h; injection h with h
              exact ⟨.inl h.symm, by rw [← h]; show g < _; omega⟩
          · exact ⟨.inr (HG1.out q h), Nat.lt_of_lt_of_le (full_lt HFV1.out (by omega) q h) h8⟩
          · exact ⟨.inr (HG2.out q h), Nat.lt_of_lt_of_le (full_lt HFV2.out (by omega) q h) h8⟩
          · exact ⟨.inr (HG3.out q h), Nat.lt_of_lt_of_le (full_lt HFV3.out (by omega) q h) h8⟩
      go_region_law (refine step_append_own2 rfl (.tmp 54) (.tmp 56) 27 rfl 191 j0 (.agg #[.slice none 0 0, .slice none 0 0, .slice none 0 0, .slice none 0 0, .string ⟨#[]⟩]) 5 112 Tryz.underlying27 hj53 hy0 hy1 hy2 rfl (by decide) base _ X.length (flat X) (by simp [Act.eval]; rfl) (by exact (HV7.out.alloc _).drew) ⟨w7.heap.size, 0, none⟩ 1 1 [.slice a i i, .slice b1 (i + 1) d1, .slice b2 (i + 2) d2, .slice b3 (i + 3) d3, .string m] (by simp [Act.eval]) rfl (by exact five_new _ _ _ _ _ _ _) (five_one _ _ _ _ _ _ _ _ _ _ _ _ _) hm1 hm2 (by show base ≤ (w7.alloc _).heap.size; simp; omega) ?_; intro v8 w8 hown8 hgrow8 hq8; obtain ⟨a8, c8, hs8⟩ := own_shape hown8; subst hs8; have hB8 : w8.heap[B]? = some (.cells #[l0, .int .i64 ((n : Int) + 1), .slice av X.length cv, .slice none 0 0, .slice none 0 0, .slice none 0 0, lo] 34 (0, 0)) := (grown_block hgrow8 B hBlt HT7.out).trans HB7.out; have p8 : w8.cell? ⟨B, 2, none⟩ = some (.slice av X.length cv) := cell_of_row _ _ _ _ 34 _ hB8; have p8f : w8.frozen? ⟨B, 2, none⟩ = false := frozen_of_row _ _ _ _ 34 hB8)
      all_goals (have hend := HEND.out _ _ hown8 hgrow8 hq8)
      all_goals (clear hown8 hgrow8 hq8; go_end0)
      all_goals exact ⟨rfl, hend⟩
end Go.Proofs.YtadinjaocnlglaaGreatDoor
