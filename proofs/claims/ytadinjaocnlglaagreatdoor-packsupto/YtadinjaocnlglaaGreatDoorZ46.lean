/-
  A desk: a script.
  The walk of vaultlaw's Packs.
  One object taken out of a list of one's own.
-/
import Derived.Test.YtadinjaocnlglaaGreatDoorZ45
import Derived.Test.YtadinjaocnlglaaGreatDoorZ30
import Derived.Deep.RegionLaw
namespace Go.Proofs.YtadinjaocnlglaaGreatDoor
open Go.RowKit Go.Maps
set_option maxRecDepth 100000
set_option maxHeartbeats 4000000
/-- a script that is handed in -/
def Acts (w : World) (a : Option Addr) (n : Nat) : Prop := ∀ i, i < n → ∃ b off kind wn s, a = some ⟨b, off, none⟩ ∧ b < w.heap.size ∧ w.cell? ⟨b, off + i * 3, none⟩ = some (.int .i64 kind) ∧ w.cell? ⟨b, off + i * 3 + 1, none⟩ = some (.int .i64 wn) ∧ w.cell? ⟨b, off + i * 3 + 2, none⟩ = some (.string s) ∧ -9223372036854775808 ≤ wn ∧ wn ≤ 9223372036854775807 ∧ s.size ≤ 140737488355328
/-- the desk as it stands -/
def PI (base d np m : Nat) (W w : World) : Prop := Below base W w ∧ ∃ c ps X, DK base d c ps X w ∧ ps.length = np ∧ SameP ps ∧ X.length ≤ m
theorem PI.below {base d np m : Nat} {W w w' : World} (h : PI base d np m W w) (hb : Below w.heap.size w w') (hs : base ≤ w.heap.size) : PI base d np m W w' := by
  obtain ⟨h1, c, ps, X, h2, h3⟩ := h
  exact ⟨h1.trans (hb.mono hs), c, ps, X, h2.below hb, h3⟩
theorem dlooks_any (base d np m : Nat) (W w : World) (h : PI base d np m W w) (hm : m ≤ 1000000000) : Calls Tryz.prog 52 #[.pointer (some ⟨d, 1, none⟩)] w fun e w' => e = .returned (.bool true) ∧ Below w.heap.size w w' := by
  obtain ⟨_, c, ps, X, h2, h3, h4, h5⟩ := h
  obtain ⟨l0, v, h1, r2, _⟩ := h2.row
  exact looks_any l0 (.bool false) X d base (.int .i64 X.length) v w h1 (by omega) r2 (fun e he => (h2.ok e he).1)
theorem dact_any (kt : Nat → Int) (base d np m : Nat) (kind wn : Int) (s : ByteArray) (W w : World) (h : PI base d np m W w) (hnp : np ≤ 10) (hw0 : -9223372036854775808 ≤ wn) (hw1 : wn ≤ 9223372036854775807) (hb : base ≤ W.heap.size) (h8 : 8 ≤ base) (hG : Glb kt W) (hs2 : s.size ≤ 140737488355328) (hm : m ≤ 999999999) :
    Calls Tryz.prog 51 #[.pointer (some ⟨d, 0, none⟩), .agg #[.int .i64 kind, .int .i64 wn, .string s]] w fun e w' => e = .returned (.bool true) ∧ PI base d np (m + 1) W w' := by
  obtain ⟨hB, c, ps, X, h2, h3, h4, h5⟩ := h
  refine (act_any kt base d c ps X kind wn s w h2 h4 (by omega) hw0 hw1 (Nat.le_trans hb hB.size) h8 (hG.low h8 hB) hs2 (by omega)).mono ?_
  rintro e w' ⟨rfl, k1, c', ps', X', k2, k3, k4, k5⟩
  exact ⟨rfl, hB.trans k1, c', ps', X', k2, by omega, k4, by omega⟩
theorem dcloses_any (kt : Nat → Int) (base d np m : Nat) (W w : World) (h : PI base d np m W w) (hb : base ≤ W.heap.size) (h8 : 8 ≤ base) (hG : Glb kt W) (hm : m ≤ 999999999) (k : Nat) (hk : k < np) :
    ∃ lb cl p, w.cell? ⟨d, 0, none⟩ = some (.slice (some ⟨lb, 0, none⟩) np cl) ∧ w.cell? ⟨lb, k, none⟩ = some (.pointer (some ⟨p, 0, none⟩)) ∧
      Calls Tryz.prog 53 #[.pointer (some ⟨d, 0, none⟩), .pointer (some ⟨p, 0, none⟩)] w fun e w' => e = .returned (.bool true) ∧ PI base d np (m + 1) W w' := by
  obtain ⟨hB, c, ps, X, h2, h3, h4, h5⟩ := h
  subst h3
  obtain ⟨l0, v, h1, r2, r3, r4, r5⟩ := h2.row
  obtain ⟨al, cl, hal⟩ := own_shape r4
  subst hal
  obtain ⟨lb, hla, hlbl, hlc⟩ := ptr_cell r4 k hk
  subst hla
  refine ⟨lb, cl, ps[k].p, cell_of_row _ _ _ _ 34 _ h1, hlc, ?_⟩
  have hs := h4 ps[k] (List.getElem_mem hk)
  refine (closes_any kt base d c ps X k ps[k].ax w h2 hk rfl hs.1.symm hs.2 (Nat.le_trans hb hB.size) h8 (by omega) (hG.low h8 hB)).mono ?_
  rintro e w' ⟨rfl, k1, c', x, k2⟩
  exact ⟨rfl, hB.trans k1, c', _, _, k2, by simp [setX, setY], same_set ps k _ h4 hs.2.clo, by simp; omega⟩
theorem dlen (base d np m : Nat) (W w : World) (h : PI base d np m W w) : ∃ al cl, w.cell? ⟨d, 0, none⟩ = some (.slice al np cl) := by
  obtain ⟨hB, c, ps, X, h2, h3, h4, h5⟩ := h
  obtain ⟨l0, v, h1, r2, r3, r4, r5⟩ := h2.row
  obtain ⟨al, cl, hal⟩ := own_shape r4
  subst hal
  subst h3
  exact ⟨al, cl, cell_of_row _ _ _ _ 34 _ h1⟩
theorem plays_any (kt : Nat → Int) (base d np : Nat) (a : Option Addr) (n cap : Nat) (W w : World) (h : PI base d np 0 W w) (hnp : np ≤ 10) (hb : base ≤ W.heap.size) (h8 : 8 ≤ base) (hG : Glb kt W) (hn : n ≤ 100000000) (hA : ∀ w' : World, Below base W w' → Acts w' a n) :
    Calls Tryz.prog 14 #[.pointer (some ⟨d, 0, none⟩), .slice a n cap] w fun e w' => e = .returned (.bool true) ∧ Below base W w' := by
  have HP : Hid _ := h
  have HA : Hid _ := hA
  have HG : Hid _ := hG
  clear h hA hG
  go_enter Tryz.func14, Tryz.ntmps14
  go_wp2_with fail
  go_loopw [5] (fun iv wr => ∃ j : Nat, j ≤ n ∧ iv = .int .i64 j ∧ PI base d np j W wr) (fun iv _ => n - (intOf iv).toNat)
  case atStart => exact ⟨0, by omega, rfl, HP.out⟩
  case round =>
    obtain ⟨j, hj, rfl, hI⟩ := hrel
    have HI : Hid _ := hI
    have hsz : base ≤ wr.heap.size := Nat.le_trans hb hI.1.size
    by_cases hlt : j < n
    · obtain ⟨b, off, kind, wn, s, ha, hbl, x0, x1, x2, hw0, hw1, hs2⟩ := HA.out wr hI.1 j hlt
      subst ha
      have H51 : Hid _ := dact_any kt base d np j kind wn s W wr hI hnp hw0 hw1 hb h8 HG.out hs2 (by omega)
      clear hI
      go_wp2_with fail
      refine Calls.mono H51.out ?_
      rintro e w1 ⟨rfl, hI1⟩
      have H52 : Hid _ := dlooks_any base d np (j + 1) W w1 hI1 (by omega)
      have HI1 : Hid _ := hI1
      have hsz1 : base ≤ w1.heap.size := Nat.le_trans hb hI1.1.size
      clear hI1 x0 x1 x2
      go_wp2_with fail
      refine Calls.mono H52.out ?_
      rintro e w2 ⟨rfl, hb2⟩
      have HI2 : Hid (PI base d np (j + 1) W w2) := PI.below HI1.out hb2 hsz1
      clear hb2
      go_wp2
      go_roundw
      case rel => exact ⟨j + 1, by omega, by go_num, HI2.out⟩
      case measure => simp [intOf]; omega
    · have ej : j = n := by omega
      subst ej
      clear hI
      go_wp2_with fail
      go_loopw [8] (fun iv ws => ∃ k : Nat, k ≤ np ∧ iv = .int .i64 k ∧ PI base d np (j + 2 * k) W ws) (fun iv _ => np - (intOf iv).toNat)
      case atStart => exact ⟨0, by omega, rfl, HI.out⟩
      case round =>
        obtain ⟨k, hk, rfl, hK⟩ := hrel
        have HK : Hid _ := hK
        by_cases hkl : k < np
        · obtain ⟨lb, cl, p, d0, lc, H1⟩ := dcloses_any kt base d np (j + 2 * k) W wr hK hb h8 HG.out (by omega) k hkl
          have H1' : Hid _ := H1
          have hkn : (k : Int) < (np : Int) := by omega
          have hk0 : (0 : Int) ≤ (k : Int) := by omega
          clear hK H1
          go_wp2_with fail
          refine Calls.mono H1'.out ?_
          rintro e w1 ⟨rfl, hI1⟩
          obtain ⟨lb1, cl1, p1, d1, lc1, H2⟩ := dcloses_any kt base d np (j + 2 * k + 1) W w1 hI1 hb h8 HG.out (by omega) k hkl
          have H2' : Hid _ := H2
          clear hI1 H2 d0 lc
          go_wp2_with fail
          refine Calls.mono H2'.out ?_
          rintro e w2 ⟨rfl, hI2⟩
          have HI2 : Hid (PI base d np (j + 2 * (k + 1)) W w2) := by
            have e : j + 2 * k + 1 + 1 = j + 2 * (k + 1) := by omega
            rw [e] at hI2
            exact hI2
          clear hI2 d1 lc1
          go_wp2
          go_roundw
          case rel => exact ⟨k + 1, by omega, by go_num, HI2.out⟩
          case measure => simp [intOf]; omega
        · have ek : k = np := by omega
          subst ek
          obtain ⟨al, cl, d0⟩ := dlen _ _ _ _ _ _ hK
          have H52 : Hid _ := dlooks_any base d k (j + 2 * k) W wr hK (by omega)
          have hszr : base ≤ wr.heap.size := Nat.le_trans hb hK.1.size
          clear hK
          go_wp2_with fail
          refine Calls.mono H52.out ?_
          rintro e w2 ⟨rfl, hb2⟩
          have HF : Hid (Below base W w2) := (PI.below HK.out hb2 hszr).1
          clear hb2
          go_wp2
          go_ret
          exact ⟨rfl, HF.out⟩
end Go.Proofs.YtadinjaocnlglaaGreatDoor
namespace Go.Proofs.YtadinjaocnlglaaGreatDoor
open Go.RowKit Go.Maps
set_option maxRecDepth 100000
set_option maxHeartbeats 4000000
theorem dwriter_any (kt : Nat → Int) (base d np m : Nat) (K M C V : Int) (W w : World) (h : PI base d np m W w) (hnp : np ≤ 9) (hb : base ≤ W.heap.size) (h8 : 8 ≤ base) (hG : Glb kt W) :
    Calls Tryz.prog 13 #[.pointer (some ⟨d, 0, none⟩), pI4 K M C V] w fun e w' => e = .returned (.bool true) ∧ ∃ np', np' ≤ np + 1 ∧ PI base d np' m W w' := by
  obtain ⟨hB, c, ps, X, h2, h3, h4, h5⟩ := h
  have hbw : base ≤ w.heap.size := Nat.le_trans hb hB.size
  rcases par4_cases K M C V with ⟨i, hbad⟩ | ⟨k, m', c', v, rfl, rfl, rfl, rfl, k1, k2, k3, k4, k5, k6⟩
  · refine (writer_bad base d c ps X K M C V i w h2 (hG.low h8 hB).ge hbad).mono ?_
    rintro e w' ⟨rfl, hb'⟩
    exact ⟨rfl, np, by omega, hB.trans (hb'.mono hbw), c, ps, X, h2.below hb', h3, h4, h5⟩
  · refine (writer_ok base d c ps X k m' c' v w h2 hbw (hG.low h8 hB).ge k1 k2 k3 k4 k5 k6 (by omega)).mono ?_
    rintro e w' ⟨rfl, hb', c2, p, x, y, hD⟩
    refine ⟨rfl, np + 1, Nat.le_refl _, hB.trans hb', c2, _, X, hD, by simp; omega, ?_, h5⟩
    intro e he
    rcases List.mem_append.1 he with he | he
    · exact h4 e he
    · simp at he
      subst he
      exact ⟨rfl, A0_ok k1 k2 k3 k4 k5 k6⟩
/-- an empty desk -/
theorem DK.empty {base d : Nat} {w : World} (hd : w.heap[d]? = some (.cells #[.slice none 0 0, .int .i64 0, .slice none 0 0, .slice none 0 0, .slice none 0 0, .slice none 0 0, .bool false] 34 (0, 0))) (hb : base ≤ d) : ∃ c, DK base d c [] [] w := by
  have hdl := (Array.getElem?_eq_some_iff.1 hd).1
  refine ⟨fun j => if j = d then 1 else 0, fun j hj => ?_, by simp, ⟨.slice none 0 0, .slice none 0 0, hd, own0, fun q hq => by simp [Value.ownBlock] at hq, own0, fun q hq => by simp [Value.ownBlock] at hq⟩, by simp, fun i hi => by simp at hi⟩
  by_cases e : j = d
  · subst e; exact ⟨hb, hdl⟩
  · simp [e] at hj
theorem packs_any (kt : Nat → Int) (K M C V K' M' C' V' : Int) (a : Option Addr) (n cap : Nat) (W : World) (h8 : 8 ≤ W.heap.size) (hG : Glb kt W) (hn : n ≤ 100000000) (hA : Acts W a n) :
    Calls Tryz.prog 3 #[pI4 K M C V, pI4 K' M' C' V', .slice a n cap] W fun e w' => e = .returned (.bool true) ∧ Below W.heap.size W w' := by
  have HA : Hid (∀ w' : World, Below W.heap.size W w' → Acts w' a n) := fun w' hb i hi => by
    obtain ⟨b, off, kind, wn, s, h1, h2, h3, h4, h5, h6⟩ := hA i hi
    exact ⟨b, off, kind, wn, s, h1, Nat.lt_of_lt_of_le h2 hb.size, (hb.cell (p := ⟨b, off + i * 3, none⟩) h2).trans h3, (hb.cell (p := ⟨b, off + i * 3 + 1, none⟩) h2).trans h4, (hb.cell (p := ⟨b, off + i * 3 + 2, none⟩) h2).trans h5, h6⟩
  obtain ⟨W1, hW1⟩ : ∃ W1, (W.alloc (.cells #[.int .i64 K, .int .i64 M, .int .i64 C, .int .i64 V] 23)).alloc (.cells #[.int .i64 K', .int .i64 M', .int .i64 C', .int .i64 V'] 23) = W1 := ⟨_, rfl⟩
  have hB1 : Below W.heap.size W W1 := by rw [← hW1]; exact ((Below.refl _ _).alloc (Nat.le_refl _) _).alloc (by simp) _
  have hs1 : W1.heap.size = W.heap.size + 2 := by rw [← hW1]; simp
  have hp : W1.heap[W.heap.size]? = some (.cells #[.int .i64 K, .int .i64 M, .int .i64 C, .int .i64 V] 23 (0, 0)) := by rw [← hW1, heap_alloc_old _ _ (by simp)]; exact heap_alloc_new _ _
  have hq : W1.heap[W.heap.size + 1]? = some (.cells #[.int .i64 K', .int .i64 M', .int .i64 C', .int .i64 V'] 23 (0, 0)) := by
    have := heap_alloc_new (W.alloc (.cells #[.int .i64 K, .int .i64 M, .int .i64 C, .int .i64 V] 23)) (.cells #[.int .i64 K', .int .i64 M', .int .i64 C', .int .i64 V'] 23)
    rw [hW1] at this
    simpa using this
  obtain ⟨d, hde⟩ : ∃ d, W1.heap.size = d := ⟨_, rfl⟩
  obtain ⟨W2, hW2⟩ : ∃ W2, W1.alloc (.cells #[.slice none 0 0, .int .i64 0, .slice none 0 0, .slice none 0 0, .slice none 0 0, .slice none 0 0, .bool false] 34) = W2 := ⟨_, rfl⟩
  have hd : W2.heap[d]? = some (.cells #[.slice none 0 0, .int .i64 0, .slice none 0 0, .slice none 0 0, .slice none 0 0, .slice none 0 0, .bool false] 34 (0, 0)) := by rw [← hW2, ← hde]; exact heap_alloc_new _ _
  have hB2 : Below d W1 W2 := by rw [← hW2, ← hde]; exact (Below.refl _ _).alloc (Nat.le_refl _) _
  have HG1 : Hid (Glb kt W1) := hG.low h8 hB1
  have HP0 : Hid (PI d d 0 0 W1 W2) := by
    obtain ⟨c, hc⟩ := DK.empty (base := d) hd (Nat.le_refl _)
    exact ⟨hB2, c, [], [], hc, rfl, fun e he => by simp at he, Nat.le_refl _⟩
  have HPL : Hid (∀ (w : World), Below d W1 w → (w.cell? ⟨W.heap.size, 0, none⟩ = some (.int .i64 K) ∧ w.cell? ⟨W.heap.size, 1, none⟩ = some (.int .i64 M) ∧ w.cell? ⟨W.heap.size, 2, none⟩ = some (.int .i64 C) ∧ w.cell? ⟨W.heap.size, 3, none⟩ = some (.int .i64 V)) ∧ (w.cell? ⟨W.heap.size + 1, 0, none⟩ = some (.int .i64 K') ∧ w.cell? ⟨W.heap.size + 1, 1, none⟩ = some (.int .i64 M') ∧ w.cell? ⟨W.heap.size + 1, 2, none⟩ = some (.int .i64 C') ∧ w.cell? ⟨W.heap.size + 1, 3, none⟩ = some (.int .i64 V'))) := fun w hw => by
    have h1 : w.heap[W.heap.size]? = some (.cells #[.int .i64 K, .int .i64 M, .int .i64 C, .int .i64 V] 23 (0, 0)) := by rw [hw.block _ (by omega)]; exact hp
    have h2 : w.heap[W.heap.size + 1]? = some (.cells #[.int .i64 K', .int .i64 M', .int .i64 C', .int .i64 V'] 23 (0, 0)) := by rw [hw.block _ (by omega)]; exact hq
    exact ⟨⟨cell_of_row _ _ _ _ 23 _ h1, cell_of_row _ _ _ _ 23 _ h1, cell_of_row _ _ _ _ 23 _ h1, cell_of_row _ _ _ _ 23 _ h1⟩, ⟨cell_of_row _ _ _ _ 23 _ h2, cell_of_row _ _ _ _ 23 _ h2, cell_of_row _ _ _ _ 23 _ h2, cell_of_row _ _ _ _ 23 _ h2⟩⟩
  have HB1 : Hid _ := hB1
  have h8d : 8 ≤ d := by omega
  have hbd : d ≤ W1.heap.size := by omega
  have HSZ : Hid (W.heap.size ≤ d) := by show _ ≤ _; omega
  obtain ⟨⟨p0, p1, p2, p3⟩, _⟩ := HPL.out W2 hB2
  have H13 : Hid (∀ (np : Nat) (w : World) (K M C V : Int), PI d d np 0 W1 w → np ≤ 9 → Calls Tryz.prog 13 #[.pointer (some ⟨d, 0, none⟩), .agg #[.int .i64 K, .int .i64 M, .int .i64 C, .int .i64 V]] w fun e w' => e = .returned (.bool true) ∧ ∃ np', np' ≤ np + 1 ∧ PI d d np' 0 W1 w') := fun np w K M C V hI hnp => dwriter_any kt d d np 0 K M C V W1 w hI hnp hbd h8d HG1.out
  unfold pI4
  clear hp hq hd hB1 hB2 hG hA h8 hs1
  go_enter Tryz.func3, Tryz.ntmps3
  go_wp2_with fail
  try rw [hW1]
  try rw [hde]
  try rw [hW2]
  clear hW1 hW2
  refine Calls.mono (H13.out 0 W2 K M C V HP0.out (by omega)) ?_
  rintro e w1 ⟨rfl, np1, hn1, hI1⟩
  obtain ⟨_, ⟨q0, q1, q2, q3⟩⟩ := HPL.out w1 hI1.1
  have HI1 : Hid _ := hI1
  clear hI1 p0 p1 p2 p3
  go_wp2_with fail
  refine Calls.mono (H13.out np1 w1 K' M' C' V' HI1.out (by omega)) ?_
  rintro e w2 ⟨rfl, np2, hn2, hI2⟩
  have H14 : Hid _ := plays_any kt d d np2 a n cap W1 w2 hI2 (by omega) hbd h8d HG1.out hn (fun w' hw' => HA.out w' (HB1.out.trans (hw'.mono HSZ.out)))
  clear hI2 q0 q1 q2 q3
  go_wp2_with fail
  refine Calls.mono H14.out ?_
  rintro e w3 ⟨rfl, hb3⟩
  have HB3 : Hid (Below W.heap.size W w3) := HB1.out.trans (hb3.mono HSZ.out)
  clear hb3
  go_wp2
  go_ret
  exact ⟨rfl, HB3.out⟩
end Go.Proofs.YtadinjaocnlglaaGreatDoor
namespace Go.Proofs.YtadinjaocnlglaaGreatDoor
open Go.RowKit
set_option maxRecDepth 100000
set_option maxHeartbeats 1000000
theorem setCells_row (g : Nat) (t : TypeId) (fr : Nat × Nat) : ∀ (vs : List Value) (o : Nat) (w : World) (cur : Array Value), w.heap[g]? = some (.cells cur t fr) →
    ∃ cur', (w.setCells g o vs).heap[g]? = some (.cells cur' t fr) ∧ cur'.size = cur.size ∧ ∀ i, i < cur.size → cur'[i]? = if o ≤ i ∧ i < o + vs.length then vs[i - o]? else cur[i]?
  | [], o, w, cur, h => ⟨cur, h, rfl, fun i _ => by rw [if_neg (by simp)]⟩
  | v :: r, o, w, cur, h => by
    obtain ⟨cur', h1, h2, h3⟩ := setCells_row g t fr r (o + 1) (w.setCell ⟨g, o, none⟩ v) (cur.setIfInBounds o v) (set_heap w g o v cur t fr h)
    refine ⟨cur', h1, by simpa using h2, fun i hi => ?_⟩
    rw [h3 i (by simpa using hi)]
    by_cases e : i = o
    · subst e
      rw [if_neg (by omega), if_pos (by simp)]
      simp [hi]
    · by_cases e2 : o + 1 ≤ i ∧ i < o + 1 + r.length
      · rw [if_pos e2, if_pos (by simp; omega)]
        obtain ⟨k, rfl⟩ : ∃ k, i = o + 1 + k := ⟨i - (o + 1), by omega⟩
        rw [show o + 1 + k - (o + 1) = k by omega, show o + 1 + k - o = k + 1 by omega]
        rfl
      · rw [if_neg e2, if_neg (by simp; omega), Array.getElem?_setIfInBounds, if_neg (Ne.symm e)]
theorem setCells_other (g j : Nat) (h : j ≠ g) : ∀ (vs : List Value) (o : Nat) (w : World), (w.setCells g o vs).heap[j]? = w.heap[j]?
  | [], _, _ => rfl
  | v :: r, o, w => (setCells_other g j h r (o + 1) (w.setCell ⟨g, o, none⟩ v)).trans (set_other w g o j v h)
theorem setCells_size (g : Nat) : ∀ (vs : List Value) (o : Nat) (w : World), (w.setCells g o vs).heap.size = w.heap.size
  | [], _, _ => rfl
  | v :: r, o, w => (setCells_size g r (o + 1) (w.setCell ⟨g, o, none⟩ v)).trans (by simp [World.setCell])
theorem setCells_calm (g : Nat) : ∀ (vs : List Value) (o : Nat) (w : World), Calm w (w.setCells g o vs)
  | [], _, _ => ⟨rfl, rfl, rfl⟩
  | v :: r, o, w => setCells_calm g r (o + 1) (w.setCell ⟨g, o, none⟩ v)
def movF (G : Nat → Ob) (p r : Nat) : List Value := (List.range ((r - (p + 1)) * 2)).map fun j => fC G ((p + 1) * 2 + j)
def delF (G : Nat → Ob) (p : Nat) : Nat → Ob := fun i => if i < p then G i else G (i + 1)
theorem movF_len (G : Nat → Ob) (p r : Nat) : (movF G p r).length = (r - (p + 1)) * 2 := by simp [movF]
theorem movF_get (G : Nat → Ob) (p r j : Nat) (h : j < (r - (p + 1)) * 2) : (movF G p r)[j]? = some (fC G ((p + 1) * 2 + j)) := by simp [movF, h]
theorem movF_one (G : Nat → Ob) (p r : Nat) : ∀ u ∈ movF G p r, u.oneCell' = true := by
  intro u hu
  obtain ⟨i, _, rfl⟩ := List.mem_map.1 hu
  unfold fC
  split <;> rfl
theorem fC_del (G : Nat → Ob) (p i : Nat) : fC (delF G p) i = if i < p * 2 then fC G i else fC G (i + 2) := by
  unfold fC delF
  have e1 : (i + 2) % 2 = i % 2 := by omega
  have e2 : (i + 2) / 2 = i / 2 + 1 := by omega
  by_cases h : i < p * 2
  · rw [if_pos h, if_pos (show i / 2 < p by omega)]
  · rw [if_neg h, if_neg (show ¬ i / 2 < p by omega), e1, e2]
theorem OwnF.cur {w : World} {B n g cap : Nat} {F : Nat → Ob} (h : OwnF w B (.slice (some ⟨g, 0, none⟩) n cap) n F) : ∃ cur, w.heap[g]? = some (.cells cur 72 (0, 0)) ∧ B ≤ g ∧ n ≤ cap ∧ cap ≤ maxLen ∧ cur.size = cap * 2 ∧ ∀ i, i < n * 2 → cur[i]? = some (fC F i) := by
  rcases h.2 with ⟨h2, _⟩ | ⟨g', cap', cur, hv, hb, hh, hc1, hc2, hc3, hc4⟩
  · cases h2
  · cases hv
    refine ⟨cur, hh, hb, hc1, hc2, hc3, fun j hj => ?_⟩
    have := congrArg (fun l => l[j]?) hc4
    simp only [objF_get F n j hj] at this
    rw [← this, List.getElem?_take, if_pos hj]
    simp
theorem OwnF.del {w : World} {B r g cap : Nat} {G : Nat → Ob} (h : OwnF w B (.slice (some ⟨g, 0, none⟩) r cap) r G) (p : Nat) (hp : p < r) :
    OwnF (w.setCells g (p * 2) (movF G p r)) B (.slice (some ⟨g, 0, none⟩) (p + (r - (p + 1))) cap) (p + (r - (p + 1))) (delF G p) := by
  obtain ⟨cur, hh, hb, hc1, hc2, hc3, hc4⟩ := h.cur
  obtain ⟨cur', h1, h2, h3⟩ := setCells_row g 72 (0, 0) (movF G p r) (p * 2) w cur hh
  refine ⟨objF_len _ _, .inr ⟨g, cap, cur', rfl, hb, h1, by omega, hc2, by omega, ?_⟩⟩
  apply List.ext_getElem?
  intro i
  by_cases hi : i < (p + (r - (p + 1))) * 2
  · rw [objF_get _ _ _ hi, List.getElem?_take, if_pos hi, Array.getElem?_toList, h3 i (by omega), movF_len, fC_del]
    by_cases e : i < p * 2
    · rw [if_neg (by omega), if_pos e, hc4 i (by omega)]
    · rw [if_pos (by omega), if_neg e, movF_get _ _ _ _ (by omega), show (p + 1) * 2 + (i - p * 2) = i + 2 by omega]
  · rw [List.getElem?_take, if_neg hi, List.getElem?_eq_none (by rw [objF_len]; omega)]
theorem erase_perm : ∀ (l : List Ob) (p : Nat) (h : p < l.length), l.Perm (l[p] :: l.eraseIdx p)
  | [], _, h => by simp at h
  | x :: r, 0, _ => List.Perm.refl _
  | x :: r, p + 1, h => ((erase_perm r p (by simpa using h)).cons x).trans (List.Perm.swap _ _ _)
theorem del_perm (G : Nat → Ob) (r p : Nat) (hp : p < r) : ((List.range r).map G).Perm (G p :: (List.range (p + (r - (p + 1)))).map (delF G p)) := by
  have hl : p < ((List.range r).map G).length := by simpa using hp
  have h1 := erase_perm _ p hl
  have e1 : ((List.range r).map G)[p] = G p := by simp
  have e2 : ((List.range r).map G).eraseIdx p = (List.range (p + (r - (p + 1)))).map (delF G p) := by
    apply List.ext_getElem?
    intro i
    rw [List.getElem?_eraseIdx]
    by_cases hi : i < p
    · rw [if_pos hi]
      simp [delF, hi, show i < r by omega, show i < p + (r - (p + 1)) by omega]
    · rw [if_neg hi]
      by_cases h2 : i + 1 < r
      · simp [delF, hi, h2, show i < p + (r - (p + 1)) by omega]
      · simp [h2, show ¬ i < p + (r - (p + 1)) by omega]
  rw [e1, e2] at h1
  exact h1
end Go.Proofs.YtadinjaocnlglaaGreatDoor
