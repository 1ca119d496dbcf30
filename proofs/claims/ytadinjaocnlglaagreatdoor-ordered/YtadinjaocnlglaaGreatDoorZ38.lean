/-
  A desk: is an error the document's; Writers newly made.
  A desk's new Writer.
  A desk's new Writer, where nothing is refused.
  The document's sorted: the order, as data.
-/
import Derived.Test.YtadinjaocnlglaaGreatDoorZ35
import Derived.Test.YtadinjaocnlglaaGreatDoorZ37
import Derived.Test.YtadinjaocnlglaaGreatDoorZ33
import Derived.Test.YtadinjaocnlglaaGreatDoorZ34
namespace Go.Proofs.YtadinjaocnlglaaGreatDoor
open Go.RowKit Go.Maps
set_option maxRecDepth 100000
set_option maxHeartbeats 4000000
theorem dtold_any (d : Nat) (l : List (Int × Int)) (e v : Value) (B : Nat) (w : World) (hd : w.cell? ⟨d, 6, none⟩ = some (.bool false)) (hg : Ge w) (hE : ErrAt w e l) (hv : w.ownsRow B 250 2 v l.length (mkL l)) (hl : l.length ≤ 1000) :
    Calls Tryz.prog 50 #[.pointer (some ⟨d, 0, none⟩), e, v] w fun ev w' => ev = .returned (.bool true) ∧ Below w.heap.size w w' := by
  have H : Hid _ := toldE_any l e v B w hg.err hE hv hl
  have hdl : d < w.heap.size := block_lt_of_cell hd
  obtain ⟨a, k, rfl⟩ := own_shape hv
  obtain ⟨n, hn⟩ : ∃ n, l.length = n := ⟨_, rfl⟩
  rw [hn] at H ⊢
  have he : e = .nilIface ∨ ∃ b, e = .iface 305 (.pointer (some ⟨b, 0, none⟩)) := by
    cases l with
    | nil => exact .inl hE
    | cons p r => obtain ⟨b, u, h, _⟩ := hE; exact .inr ⟨b, h⟩
  clear hE hv hn
  rcases he with rfl | ⟨b, rfl⟩
  · go_enter Tryz.func50, Tryz.ntmps50
    go_wp2_with fail
    refine Calls.mono H.out ?_
    rintro e' w1 ⟨rfl, hb⟩
    have d6 : w1.cell? ⟨d, 6, none⟩ = some (.bool false) := (hb.cell (p := ⟨d, 6, none⟩) hdl).trans hd
    have HB : Hid _ := hb
    clear hb
    go_wp2
    go_ret
    exact ⟨rfl, HB.out⟩
  · go_enter Tryz.func50, Tryz.ntmps50
    go_wp2_with fail
    refine Calls.mono H.out ?_
    rintro e' w1 ⟨rfl, hb⟩
    have d6 : w1.cell? ⟨d, 6, none⟩ = some (.bool false) := (hb.cell (p := ⟨d, 6, none⟩) hdl).trans hd
    have HB : Hid _ := hb
    clear hb
    go_wp2
    go_ret
    exact ⟨rfl, HB.out⟩
/-- a Writer newly made -/
def A0 (k m c v : Nat) : AW := ⟨k, m, c, v, [], none, false⟩
theorem A0_ok {k m c v : Nat} (hk : 1 ≤ k) (hkm : k + m ≤ 255) (hc : 1 ≤ c) (hc2 : c ≤ 64) (hv : 1 ≤ v) (hv2 : v ≤ 16) : (A0 k m c v).ok :=
  ⟨hk, hkm, hc, hc2, hv, hv2, by simp [A0, AW.n], by simp [A0, AW.tot, sumL], by simp [A0], by simp [A0]⟩
theorem map_no {w : World} {m : Nat} (h : w.heap[m]? = some (.map #[] 0)) : w.ownsMap Tryz.prog 9 pE m 0 (.map []) := by
  obtain ⟨es, ck, h1, h2, h3, h4⟩ := World.ownsMap_made w Tryz.prog 9 pE
  rw [heap_alloc_new] at h1
  cases h1
  exact ⟨#[], 0, h, h2, h3, h4⟩
theorem XI.new {k m c v p : Nat} {w : World} (h1 : w.heap[p]? = some (.map #[] 0)) (h2 : w.heap[p + 1]? = some (.cells (dC k m c v (.map (some p)) (.pointer none) 0 0) 252 (0, 0))) (h3 : w.heap[p + 2]? = some (.cells (wC 0 (p + 1)) 180 (0, 0))) (h4 : w.heap.size = p + 3) :
    XI (p + 2) (fun j => p ≤ j ∧ j < p + 3) (A0 k m c v) w := by
  refine ⟨p + 1, fun j => j = p ∨ j = p + 1, h3, by omega, fun j => by constructor <;> intro h <;> omega, ⟨.inr rfl, fun j hj => by omega, .map (some p), .pointer none, ?_, fun _ => ⟨p, .map [], fun _ => 0, fun _ => .slice none 0 0, rfl, ?_, ⟨.inl rfl, ?_, ?_, ?_, ?_, ?_, ?_, ?_, ?_, ?_⟩⟩⟩⟩
  · rw [h2, dC_Z]; rfl
  · simp [lastV, A0, AW.n]
  · exact map_no h1
  · simp [A0, strKeys]
  all_goals simp [A0]
theorem YI.new {k m c v y : Nat} {w : World} (h1 : w.heap[y]? = some (.cells (yC k m c v (.slice none 0 0) (.slice none 0 0) (.slice none 0 0) false) 185 (0, 0))) : YI y (fun j => j = y) (A0 k m c v) w :=
  ⟨rfl, fun j hj => by subst hj; exact (Array.getElem?_eq_some_iff.1 h1).1, _, _, _, h1, own0, own0, own0, fun q hq => by simp [Value.ownBlock] at hq, fun q hq => by simp [Value.ownBlock] at hq, fun q hq => by simp [Value.ownBlock] at hq, fun q hq => by simp [Value.ownBlock] at hq⟩
end Go.Proofs.YtadinjaocnlglaaGreatDoor
namespace Go.Proofs.YtadinjaocnlglaaGreatDoor
open Go.RowKit Go.Maps
set_option maxRecDepth 100000
set_option maxHeartbeats 4000000
theorem DK.add {base d p : Nat} {c : Nat → Nat} {ps : List Pe} {X : List En} {w w' : World} {l0 v l1 : Value} {Sx Sy : Nat → Prop} {x y : Nat} {A B : AW} (h : DK base d c ps X w) (hb : base ≤ w.heap.size)
    (h1 : w.heap[d]? = some (.cells #[l0, .int .i64 X.length, v, .slice none 0 0, .slice none 0 0, .slice none 0 0, .bool false] 34 (0, 0)))
    (hs : w.heap.size ≤ w'.heap.size) (hk : ∀ j, j < w.heap.size → j ≠ d → l0.ownBlock ≠ some j → w'.heap[j]? = w.heap[j]?)
    (k1 : w'.heap[d]? = some (.cells #[l1, .int .i64 X.length, v, .slice none 0 0, .slice none 0 0, .slice none 0 0, .bool false] 34 (0, 0)))
    (k2 : w'.ownsRow base 115 1 l1 (ps.length + 1) (ps.map (fun e => .pointer (some ⟨e.p, 0, none⟩)) ++ [.pointer (some ⟨p, 0, none⟩)])) (k3 : l1.ownBlock = l0.ownBlock ∨ ∃ q, l1.ownBlock = some q ∧ w.heap.size ≤ q ∧ ¬ Sx q ∧ ¬ Sy q)
    (k4 : ∃ vo rt, w'.heap[p]? = some (.cells #[.pointer (some ⟨x, 0, none⟩), .pointer (some ⟨y, 0, none⟩), vo, .string rt] 114 (0, 0))) (k5 : w.heap.size ≤ p ∧ ¬ Sx p ∧ ¬ Sy p)
    (k6 : XI x Sx A w') (k7 : YI y Sy B w') (k8 : ∀ j, Sx j → w.heap.size ≤ j) (k9 : ∀ j, Sy j → w.heap.size ≤ j ∧ ¬ Sx j) :
    ∃ c', DK base d c' (ps ++ [⟨p, x, y, A, B⟩]) X w' := by
  obtain ⟨l0', v0, r1, r2, r3, r4, r5⟩ := h.row
  rw [h1] at r1
  have e : l0 = l0' ∧ v = v0 := by simp at r1; exact r1
  obtain ⟨rfl, rfl⟩ := e
  obtain ⟨vo, rt, k4⟩ := k4
  classical
  obtain ⟨c', q1, q2, q3, q4, q5⟩ : ∃ c' : Nat → Nat, (∀ j, j < w.heap.size → c' j = c j) ∧ (∀ j, ¬ j < w.heap.size → Sx j → c' j = 2 + 2 * ps.length) ∧ (∀ j, ¬ j < w.heap.size → ¬ Sx j → Sy j → c' j = 3 + 2 * ps.length) ∧ (∀ j, ¬ j < w.heap.size → ¬ Sx j → ¬ Sy j → (j = p ∨ l1.ownBlock = some j) → c' j = 1) ∧ (∀ j, ¬ j < w.heap.size → ¬ Sx j → ¬ Sy j → ¬ (j = p ∨ l1.ownBlock = some j) → c' j = 0) :=
    ⟨fun j => if j < w.heap.size then c j else if Sx j then 2 + 2 * ps.length else if Sy j then 3 + 2 * ps.length else if j = p ∨ l1.ownBlock = some j then 1 else 0, fun j h => by simp [h], fun j h h1 => by simp [h, h1], fun j h h1 h2 => by simp [h, h1, h2], fun j h h1 h2 h3 => by simp only [h, h1, h2, if_neg, if_pos h3, not_false_eq_true], fun j h h1 h2 h3 => by simp only [h, h1, h2, if_neg, if_neg h3, not_false_eq_true]⟩
  have hl0 : ∀ q, l0.ownBlock = some q → c' q = 1 := fun q hq => by rw [q1 q (h.lo q (by rw [r5 q hq]; decide)).2]; exact r5 q hq
  have hl1 : ∀ q, l1.ownBlock = some q → c' q = 1 := fun q hq => by
    rcases k3 with e | ⟨q', e, a1, a2, a3⟩
    · rw [e] at hq; exact hl0 q hq
    · rw [e] at hq; obtain rfl := Option.some.inj hq
      exact q4 q' (by omega) a2 a3 (.inr e)
  have hone : ∀ j, c j = 1 → c' j = 1 := fun j hj => by rw [q1 j (h.lo j (by omega)).2]; exact hj
  have hlt : ∀ j, c' j ≠ 0 → base ≤ j ∧ j < w'.heap.size := fun j hj => by
    by_cases hl : j < w.heap.size
    · rw [q1 j hl] at hj; have := h.lo j hj; omega
    · by_cases hx : Sx j
      · have := k6.lt j hx; omega
      · by_cases hy : Sy j
        · have := k7.lt j hy; omega
        · by_cases hp : j = p ∨ l1.ownBlock = some j
          · rcases hp with rfl | hp
            · have := (Array.getElem?_eq_some_iff.1 k4).1; omega
            · have := own_lt k2 j hp; omega
          · exact absurd (q5 j hl hx hy hp) hj
  have hset : ∀ k, 2 ≤ k → k < 2 + 2 * ps.length → (fun j => c' j = k) = fun j => c j = k := fun k hk2 hk3 => by
    funext j
    apply propext
    by_cases hl : j < w.heap.size
    · rw [q1 j hl]
    · have hc : c j = 0 := by
        apply Decidable.byContradiction
        intro hne
        exact hl (h.lo j hne).2
      rw [hc]
      by_cases hx : Sx j
      · rw [q2 j hl hx]; constructor <;> intro hh <;> omega
      · by_cases hy : Sy j
        · rw [q3 j hl hx hy]; constructor <;> intro hh <;> omega
        · by_cases hp : j = p ∨ l1.ownBlock = some j
          · rw [q4 j hl hx hy hp]; constructor <;> intro hh <;> omega
          · rw [q5 j hl hx hy hp]
  have hv : ∀ q, v.ownBlock = some q → q ≠ d ∧ l0.ownBlock ≠ some q := fun q hq => by
    obtain ⟨cur, hc⟩ := own_type r2 q hq
    refine ⟨fun e => by rw [e, h1] at hc; simp at hc, fun e => ?_⟩
    obtain ⟨cur', hc'⟩ := own_type r4 q e
    rw [hc] at hc'; simp at hc'
  refine ⟨c', hlt, hone d h.cd, ⟨l1, v, k1, own_kept r2 (fun q hq => hk q (own_lt r2 q hq) (hv q hq).1 (hv q hq).2), fun q hq => hone q (r3 q hq), ?_, hl1⟩, fun e he => ⟨en_kept2 (h.ok e he).1 (fun q cur hq hc => hk q (Array.getElem?_eq_some_iff.1 hc).1 (fun e' => ?_) (fun e' => ?_)), fun q hq => hone q ((h.ok e he).2 q hq)⟩, fun i hi => ?_⟩
  · simpa using k2
  · rw [e', h1] at hc; simp at hc
  · obtain ⟨cur', hc'⟩ := own_type r4 q e'
    rw [hc] at hc'; simp at hc'
  · by_cases hil : i < ps.length
    · have e1 : (ps ++ [⟨p, x, y, A, B⟩])[i] = ps[i] := List.getElem_append_left hil
      rw [e1]
      obtain ⟨⟨vo', rt', p1⟩, p2, p3, p4⟩ := h.pen i hil
      have hpl := (h.lo ps[i].p (by rw [p2]; decide)).2
      refine ⟨⟨vo', rt', ?_⟩, hone _ p2, ?_, ?_⟩
      · rw [hk _ hpl (fun e => by rw [e, h1] at p1; simp at p1) (fun e => by obtain ⟨cur', hc'⟩ := own_type r4 _ e; rw [p1] at hc'; simp at hc')]
        exact p1
      · rw [hset _ (by omega) (by omega)]
        exact p3.kept hs (fun j hj => hk j (h.lo j (by omega)).2 (fun e => by rw [e, h.cd] at hj; omega) (fun e => by have := r5 j e; omega))
      · rw [hset _ (by omega) (by omega)]
        exact p4.kept hs (fun j hj => hk j (h.lo j (by omega)).2 (fun e => by rw [e, h.cd] at hj; omega) (fun e => by have := r5 j e; omega))
    · have hie : i = ps.length := by simp at hi; omega
      subst hie
      have e1 : (ps ++ [⟨p, x, y, A, B⟩])[ps.length] = ⟨p, x, y, A, B⟩ := by simp
      rw [e1]
      refine ⟨⟨vo, rt, k4⟩, q4 p (by omega) k5.2.1 k5.2.2 (.inl rfl), k6.mono (fun j hj => q2 j (by have := k8 j hj; omega) hj) (fun j hj => (hlt j (by omega)).2), k7.mono (fun j hj => q3 j (by have := (k9 j hj).1; omega) (k9 j hj).2 hj) (fun j hj => (hlt j (by omega)).2)⟩
theorem badP_ge {K M C V i : Int} (h : BadP K M C V i) : 0 ≤ i := by
  rcases h with h | ⟨k, m, _, _, _, _, h⟩
  · unfold NoPar at h; omega
  · omega
theorem writer_bad (base d : Nat) (c : Nat → Nat) (ps : List Pe) (X : List En) (K M C V i : Int) (w : World) (h : DK base d c ps X w) (hg : Ge w) (hbad : BadP K M C V i) :
    Calls Tryz.prog 13 #[.pointer (some ⟨d, 0, none⟩), pI4 K M C V] w fun e w' => e = .returned (.bool true) ∧ Below w.heap.size w w' := by
  obtain ⟨l0, v, h1, _⟩ := h.row
  have hdl : d < w.heap.size := (Array.getElem?_eq_some_iff.1 h1).1
  have c6 : w.cell? ⟨d, 6, none⟩ = some (.bool false) := cell_of_row _ _ _ _ 34 _ h1
  have H48 : Hid (∀ V', _) := fun V' => nwriter_bad K M C V i V' hbad
  have H49 : Hid (∀ V', _) := fun V' => rnew_bad K M C V i V' hbad (badP_ge hbad)
  have HB0 : Hid (Below w.heap.size w (w.alloc (.cells #[.int .i64 K, .int .i64 M, .int .i64 C, .int .i64 V] 23))) := (Below.refl _ _).alloc (Nat.le_refl _) _
  have HG : Hid _ := hg
  have HC6 : Hid _ := c6
  unfold pI4 at H48 H49 ⊢
  clear h h1 hbad hg c6
  have p0 := cell_of_row (w.alloc (.cells #[.int .i64 K, .int .i64 M, .int .i64 C, .int .i64 V] 23)) w.heap.size 0 _ 23 _ (heap_alloc_new _ _)
  go_enter Tryz.func13, Tryz.ntmps13
  go_wp2_with fail
  refine Calls.mono (H48.out _) ?_
  rintro e w1 ⟨e1, rfl, hE, hb1⟩
  have hB1 : Below w.heap.size w w1 := HB0.out.trans (hb1.mono HB0.out.size)
  have hrow : w1.heap[w.heap.size]? = some (.cells #[.int .i64 K, .int .i64 M, .int .i64 C, .int .i64 V] 23 (0, 0)) := by rw [hb1.block _ (by simp)]; exact heap_alloc_new _ _
  have r0 : w1.cell? ⟨w.heap.size, 0, none⟩ = some (.int .i64 K) := cell_of_row _ _ _ _ 23 _ hrow
  have r1 : w1.cell? ⟨w.heap.size, 1, none⟩ = some (.int .i64 M) := cell_of_row _ _ _ _ 23 _ hrow
  have r2 : w1.cell? ⟨w.heap.size, 2, none⟩ = some (.int .i64 C) := cell_of_row _ _ _ _ 23 _ hrow
  have r3 : w1.cell? ⟨w.heap.size, 3, none⟩ = some (.int .i64 V) := cell_of_row _ _ _ _ 23 _ hrow
  have HE : Hid _ := hE
  have HB1 : Hid _ := hB1
  clear hE hb1 hB1 hrow p0
  go_wp2_with fail
  refine Calls.mono (H49.out _) ?_
  rintro e w2 ⟨v2, rfl, ho2, hb2⟩
  obtain ⟨a2, k2, hv2⟩ := own_shape ho2
  subst hv2
  have hB2 : Below w.heap.size w w2 := HB1.out.trans (hb2.mono HB1.out.size)
  have H50 : Hid _ := dtold_any d [(1, i)] e1 (.slice a2 1 k2) w1.heap.size w2 ((hB2.cell (p := ⟨d, 6, none⟩) hdl).trans HC6.out) (HG.out.below hB2) (ErrAt.below HE.out hb2) ho2 (by simp)
  have HB2 : Hid _ := hB2
  clear ho2 hb2 hB2 r0 r1 r2 r3
  go_wp2_with fail
  refine Calls.mono H50.out ?_
  rintro e w3 ⟨rfl, hb3⟩
  have HB3 : Hid (Below w.heap.size w w3) := HB2.out.trans (hb3.mono HB2.out.size)
  clear hb3
  go_wp2
  go_ret
  exact ⟨rfl, HB3.out⟩
end Go.Proofs.YtadinjaocnlglaaGreatDoor
namespace Go.Proofs.YtadinjaocnlglaaGreatDoor
open Go.RowKit Go.Maps
set_option maxRecDepth 100000
set_option maxHeartbeats 4000000
theorem info115 : (Tryz.prog.info? 115).map (fun i => (i.zero, i.size, i.bytes)) = some (some (.pointer none), 1, 8) := by kernel_rfl
theorem ptr_one (a : Option Addr) : ∀ u ∈ [Value.pointer a], u.oneCell' = true := by
  intro u hu; simp at hu; subst hu; rfl
theorem writer_ok (base d : Nat) (c : Nat → Nat) (ps : List Pe) (X : List En) (k m ch v : Nat) (w : World) (h : DK base d c ps X w) (hb : base ≤ w.heap.size) (hg : Ge w) (hk : 1 ≤ k) (hkm : k + m ≤ 255) (hc : 1 ≤ ch) (hc2 : ch ≤ 64) (hv : 1 ≤ v) (hv2 : v ≤ 16) (hps : ps.length ≤ 10) :
    Calls Tryz.prog 13 #[.pointer (some ⟨d, 0, none⟩), pI4 k m ch v] w fun e w' => e = .returned (.bool true) ∧ Below base w w' ∧ ∃ c' p x y, DK base d c' (ps ++ [⟨p, x, y, A0 k m ch v, A0 k m ch v⟩]) X w' := by
  obtain ⟨l0, vt, h1, t2, t3, t4, t5⟩ := h.row
  have hdl : d < w.heap.size := (Array.getElem?_eq_some_iff.1 h1).1
  have hdb : base ≤ d := (h.lo d (by rw [h.cd]; decide)).1
  have c6 : w.cell? ⟨d, 6, none⟩ = some (.bool false) := cell_of_row _ _ _ _ 34 _ h1
  have H48 : Hid (∀ V', _) := fun V' => nwriter_ok k m ch v V' hk hkm hc hc2 hv hv2
  have H49 : Hid (∀ V', _) := fun V' => rnew_ok k m ch v V' hk hkm hc hc2 hv hv2
  have HB0 : Hid (Below w.heap.size w (w.alloc (.cells #[.int .i64 k, .int .i64 m, .int .i64 ch, .int .i64 v] 23))) := (Below.refl _ _).alloc (Nat.le_refl _) _
  have HG : Hid _ := hg
  have HC6 : Hid _ := c6
  have HD : Hid _ := h
  have H1 : Hid _ := h1
  obtain ⟨al, cl, hal⟩ := own_shape t4
  subst hal
  have HL0 : Hid (w.ownsRow base 115 1 (.slice al ps.length cl) ps.length (ps.map fun e => .pointer (some ⟨e.p, 0, none⟩))) := t4
  obtain ⟨i0, hi0, z0, z1, z2⟩ := info_parts info115
  obtain ⟨np, hnp⟩ : ∃ np, ps.length = np := ⟨_, rfl⟩
  have HNP : Hid _ := hnp
  rw [hnp] at HL0 hps
  have HM1 : Hid (np + 1 ≤ maxLen) := by show np + 1 ≤ maxLen; unfold maxLen; omega
  have HM2 : Hid ((np + 1) * 8 ≤ 140737488355328) := by show _ ≤ _; omega
  unfold pV at H48
  unfold pI4 at H49 ⊢
  clear h h1 hg c6 t2 t3 t4 t5
  have p0 := cell_of_row (w.alloc (.cells #[.int .i64 k, .int .i64 m, .int .i64 ch, .int .i64 v] 23)) w.heap.size 0 _ 23 _ (heap_alloc_new _ _)
  go_enter Tryz.func13, Tryz.ntmps13
  go_wp2_with fail
  refine Calls.mono (H48.out _) ?_
  rintro e w1 ⟨mb, rfl, n1, n2, n3, n4, n5, hb1⟩
  have hB1 : Below w.heap.size w w1 := HB0.out.trans (hb1.mono HB0.out.size)
  have hrow : w1.heap[w.heap.size]? = some (.cells #[.int .i64 k, .int .i64 m, .int .i64 ch, .int .i64 v] 23 (0, 0)) := by rw [hb1.block _ (by simp)]; exact heap_alloc_new _ _
  have r0 : w1.cell? ⟨w.heap.size, 0, none⟩ = some (.int .i64 k) := cell_of_row _ _ _ _ 23 _ hrow
  have r1 : w1.cell? ⟨w.heap.size, 1, none⟩ = some (.int .i64 m) := cell_of_row _ _ _ _ 23 _ hrow
  have r2 : w1.cell? ⟨w.heap.size, 2, none⟩ = some (.int .i64 ch) := cell_of_row _ _ _ _ 23 _ hrow
  have r3 : w1.cell? ⟨w.heap.size, 3, none⟩ = some (.int .i64 v) := cell_of_row _ _ _ _ 23 _ hrow
  have HX1 : Hid (XI (mb + 2) (fun j => mb ≤ j ∧ j < mb + 3) (A0 k m ch v) w1) := XI.new n2 n3 n4 n5
  have HMB : Hid (w.heap.size ≤ mb) := by show _ ≤ _; simp at n1; omega
  have HMS : Hid (w1.heap.size = mb + 3) := n5
  have HB1 : Hid _ := hB1
  clear hb1 hB1 hrow p0 n1 n2 n3 n4 n5
  go_wp2_with fail
  refine Calls.mono (H49.out _) ?_
  rintro e w2 ⟨y, rfl, y1, y2, hb2⟩
  have hB2 : Below w.heap.size w w2 := HB1.out.trans (hb2.mono HB1.out.size)
  have H50 : Hid _ := dtold_any d [] .nilIface (.slice none 0 0) 0 w2 ((hB2.cell (p := ⟨d, 6, none⟩) hdl).trans HC6.out) (HG.out.below hB2) rfl own0 (by simp)
  have HB2 : Hid _ := hB2
  have HX2 : Hid (XI (mb + 2) (fun j => mb ≤ j ∧ j < mb + 3) (A0 k m ch v) w2) := HX1.out.kept hb2.size (fun j hj => hb2.block j (by have := HMS.out; omega))
  have HY2 : Hid (YI y (fun j => j = y) (A0 k m ch v) w2) := YI.new y2
  have HY1 : Hid (mb + 3 ≤ y) := by have := HMS.out; show _ ≤ _; omega
  have HYL : Hid (y < w2.heap.size) := (Array.getElem?_eq_some_iff.1 y2).1
  clear hb2 hB2 r0 r1 r2 r3 y1 y2
  go_wp2_with fail
  refine Calls.mono H50.out ?_
  rintro e w3 ⟨rfl, hb3⟩
  have hB3 : Below w.heap.size w w3 := HB2.out.trans (hb3.mono HB2.out.size)
  have HX3 : Hid (XI (mb + 2) (fun j => mb ≤ j ∧ j < mb + 3) (A0 k m ch v) w3) := HX2.out.kept hb3.size (fun j hj => hb3.block j (by have := HYL.out; have := HY1.out; omega))
  have HY3 : Hid (YI y (fun j => j = y) (A0 k m ch v) w3) := HY2.out.open hb3
  have HYL3 : Hid (y < w3.heap.size) := Nat.lt_of_lt_of_le HYL.out hb3.size
  have hd3 : w3.heap[d]? = some (.cells #[.slice al np cl, .int .i64 X.length, vt, .slice none 0 0, .slice none 0 0, .slice none 0 0, .bool false] 34 (0, 0)) := by rw [hB3.block d hdl, H1.out, HNP.out]
  have c0 : w3.cell? ⟨d, 0, none⟩ = some (.slice al np cl) := cell_of_row _ _ _ _ 34 _ hd3
  have HD3 : Hid _ := hd3
  have HB3 : Hid _ := hB3
  have HL3 : Hid (w3.ownsRow base 115 1 (.slice al np cl) np (ps.map fun e => .pointer (some ⟨e.p, 0, none⟩))) := own_below HL0.out hB3
  have HLD : Hid (∀ q, (Value.slice al np cl).ownBlock = some q → q ≠ d) := fun q hq e => by obtain ⟨cur, hc⟩ := own_type HL3.out q hq; rw [e, hd3] at hc; simp at hc
  have HPW : Hid (∀ j u, [Value.pointer (some ⟨w3.heap.size, 0, none⟩)][j]? = some u → ((w3.alloc (Obj.cells #[.pointer (some ⟨mb + 2, 0, none⟩), .pointer (some ⟨y, 0, none⟩), .slice none 0 0, .string ⟨#[]⟩] 114)).alloc (Obj.cells #[.pointer (some ⟨w3.heap.size, 0, none⟩)] 115)).cell? ((⟨w3.heap.size + 1, 0, none⟩ : Addr).add j) = some u) := by
    have h := cell_one_new (w3.alloc (Obj.cells #[.pointer (some ⟨mb + 2, 0, none⟩), .pointer (some ⟨y, 0, none⟩), .slice none 0 0, .string ⟨#[]⟩] 114)) (.pointer (some ⟨w3.heap.size, 0, none⟩)) 115
    have e : (w3.alloc (Obj.cells #[.pointer (some ⟨mb + 2, 0, none⟩), .pointer (some ⟨y, 0, none⟩), .slice none 0 0, .string ⟨#[]⟩] 114)).heap.size = w3.heap.size + 1 := by simp
    rw [e] at h
    exact h
  have hdl3 : d < w3.heap.size := Nat.lt_of_lt_of_le hdl hB3.size
  have HBS : Hid (base ≤ w3.heap.size) := Nat.le_trans hb hB3.size
  clear hb3 hB3 hd3
  go_wp2_with (at_builtin; refine wpList_append2 rfl (.tmp 39) (.tmp 44) 26 rfl 115 i0 (.pointer none) 1 8 Tryz.underlying26 hi0 z0 z1 z2 rfl (by decide) base (.slice al np cl) np (ps.map fun e => .pointer (some ⟨e.p, 0, none⟩)) (by simp [Act.eval]) ((HL3.out.alloc _).alloc _) ⟨w3.heap.size + 1, 0, none⟩ 1 1 [.pointer (some ⟨w3.heap.size, 0, none⟩)] (by simp [Act.eval]) rfl HPW.out (ptr_one _) HM1.out HM2.out (by have := HBS.out; simp; omega) ?_; intro v6 w6 ho6 hg6 hq6; obtain ⟨a6, k6, hv6⟩ := own_shape ho6; subst hv6; have hd6 : w6.heap[d]? = some (.cells #[.slice al np cl, .int .i64 X.length, vt, .slice none 0 0, .slice none 0 0, .slice none 0 0, .bool false] 34 (0, 0)) := (by rw [hg6.block d (by simp; omega) (fun e => HLD.out d e.symm rfl), heap_alloc_old _ _ (by simp; omega), heap_alloc_old _ _ hdl3]; exact HD3.out); have g0 : w6.cell? ⟨d, 0, none⟩ = some (.slice al np cl) := cell_of_row _ _ _ _ 34 _ hd6; have f0 : w6.frozen? ⟨d, 0, none⟩ = false := frozen_of_row _ _ _ _ 34 hd6; have HD6 : Hid _ := hd6; have HO6 : Hid _ := ho6; have HG6 : Hid _ := hg6; have HQ6 : Hid _ := hq6; clear hd6 ho6 hg6 hq6)
  go_ret
  have hnp := HNP.out
  subst hnp
  have hkeep : ∀ j, j < w3.heap.size → j ≠ d → (Value.slice al ps.length cl).ownBlock ≠ some j → (w6.setCell ⟨d, 0, none⟩ (.slice a6 (ps.length + 1) k6)).heap[j]? = w3.heap[j]? := fun j hj h1 h2 => by
    rw [set_other _ _ _ _ _ h1, HG6.out.block j (by simp; omega) (fun e => h2 e.symm), heap_alloc_old _ _ (by simp; omega), heap_alloc_old _ _ hj]
  have hsz6 : w3.heap.size + 2 ≤ w6.heap.size := by have := HG6.out.size; simp at this; omega
  have hs3 := HB3.out.size
  have hss : (w6.setCell ⟨d, 0, none⟩ (.slice a6 (ps.length + 1) k6)).heap.size = w6.heap.size := by simp [World.setCell]
  have hol : ∀ q, (Value.slice al ps.length cl).ownBlock = some q → q < w.heap.size := fun q hq => own_lt HL0.out q hq
  have hmb := HMB.out
  have hy1 := HY1.out
  have hyl := HYL3.out
  have ho6d : ∀ q, (Value.slice a6 (ps.length + 1) k6).ownBlock = some q → q ≠ d := fun q hq e => by obtain ⟨cur, hc⟩ := own_type HO6.out q hq; rw [e, HD6.out] at hc; simp at hc
  refine ⟨rfl, ?_, ?_⟩
  · have b1 : Below base w w3 := HB3.out.mono hb
    have b2 : Below base w w6 := ((b1.alloc HBS.out _).alloc (by have := HBS.out; simp; omega) _).grown HG6.out (by have := HBS.out; simp; omega) (fun q hq => own_ge HL0.out q hq)
    exact b2.setCell (by simpa using hdb) _
  · have hadd : ∃ c', DK base d c' (ps ++ [⟨w3.heap.size, mb + 2, y, A0 k m ch v, A0 k m ch v⟩]) X (w6.setCell ⟨d, 0, none⟩ (.slice a6 (ps.length + 1) k6)) := by
      refine DK.add (p := w3.heap.size) (x := mb + 2) (y := y) (A := A0 k m ch v) (B := A0 k m ch v) (Sx := fun j => mb ≤ j ∧ j < mb + 3) (Sy := fun j => j = y) (w' := w6.setCell ⟨d, 0, none⟩ (.slice a6 (ps.length + 1) k6)) (l1 := .slice a6 (ps.length + 1) k6) HD.out hb H1.out (by omega) ?_ ?_ ?_ ?_ ?_ (by refine ⟨by omega, by omega, by omega⟩) ?_ ?_ (fun j hj => by omega) (fun j hj => by omega)
      · intro j hj h1 h2
        rw [hkeep j (by omega) h1 h2, HB3.out.block j hj]
      · exact set_heap w6 d 0 _ _ _ _ HD6.out
      · exact own_kept HO6.out (fun q hq => set_other _ _ _ _ _ (ho6d q hq))
      · rcases HQ6.out with e | ⟨q, e, hq⟩
        · exact .inl e
        · simp at hq
          exact .inr ⟨q, e, by omega, by omega, by omega⟩
      · refine ⟨.slice none 0 0, ⟨#[]⟩, ?_⟩
        rw [set_other _ _ _ _ _ (by omega), HG6.out.block _ (by simp; omega) (fun e => by have := hol _ e.symm; omega), heap_alloc_old _ _ (by simp), heap_alloc_new]
      · exact HX3.out.kept (by omega) (fun j hj => hkeep j (by omega) (by omega) (fun e => by have := hol j e; omega))
      · exact HY3.out.kept (by omega) (fun j hj => hkeep j (by omega) (by omega) (fun e => by have := hol j e; omega))
    obtain ⟨c', hc'⟩ := hadd
    exact ⟨c', _, _, _, hc'⟩
end Go.Proofs.YtadinjaocnlglaaGreatDoor
namespace Go.Proofs.YtadinjaocnlglaaGreatDoor
open Go.RowKit
set_option maxRecDepth 100000
set_option maxHeartbeats 1000000
/-- x is later than the first j of S -/
def Lat (S : List (List UInt8)) (j : Nat) (x : List UInt8) : Prop := ∀ y, 0 < j → S[j - 1]? = some y → y < x
theorem b_irr (x : List UInt8) : ¬ x < x := List.lt_irrefl x
theorem b_tr {x y z : List UInt8} (h1 : x < y) (h2 : y < z) : x < z := List.lt_trans h1 h2
/-- the sorted names rise -/
theorem nmA_lt (l : List (ByteArray × ByteArray)) (hn : (l.map (·.1)).Nodup) : (nmA l).Pairwise (· < ·) := by
  have tr : ∀ a b c : List UInt8, leB a b = true → leB b c = true → leB a c = true := fun a b c h1 h2 => by simp only [leB, decide_eq_true_eq] at *; exact List.le_trans h1 h2
  have tt : ∀ a b : List UInt8, (leB a b || leB b a) = true := fun a b => by simp only [leB, Bool.or_eq_true, decide_eq_true_eq]; exact List.le_total a b
  have h1 : (nmA l).Pairwise fun a b => leB a b = true := List.pairwise_mergeSort tr tt _
  have h0 : (l.map fun o => o.1.data.toList).Nodup := by
    rw [show (l.map fun o => o.1.data.toList) = (l.map (·.1)).map (fun b => b.data.toList) by rw [List.map_map]; rfl]
    exact List.Pairwise.map _ (fun a b h e => h (by_inj e)) hn
  have h2 : (nmA l).Nodup := (List.mergeSort_perm _ leB).nodup_iff.2 h0
  refine (List.pairwise_and_iff.2 ⟨h1, h2⟩).imp fun {a b} h => ?_
  obtain ⟨h3, h4⟩ := h
  simp only [leB, decide_eq_true_eq] at h3
  rcases Decidable.em (a < b) with h | h
  · exact h
  · exact absurd (List.le_antisymm h3 (List.not_lt.1 h)) h4
theorem nmA_mem (l : List (ByteArray × ByteArray)) (x : List UInt8) : x ∈ nmA l ↔ x ∈ l.map fun o => o.1.data.toList := (List.mergeSort_perm _ leB).mem_iff
theorem nmA_len (l : List (ByteArray × ByteArray)) : (nmA l).length = l.length := by
  unfold nmA
  rw [(List.mergeSort_perm (l.map fun o => o.1.data.toList) leB).length_eq, List.length_map]
/-- the least that is later is the next -/
theorem sel_at {S : List (List UInt8)} (hs : S.Pairwise (· < ·)) {j : Nat} (hj : j < S.length) {x : List UInt8} (hx : x ∈ S) (hl : Lat S j x) (hm : ∀ y ∈ S, Lat S j y → ¬ y < x) : x = S[j] := by
  obtain ⟨k, hk, rfl⟩ := List.getElem_of_mem hx
  have hp := List.pairwise_iff_getElem.1 hs
  have h1 : j ≤ k := by
    apply Decidable.byContradiction
    intro h
    have h2 := hl S[j - 1] (by omega) (List.getElem?_eq_getElem (by omega))
    rcases Nat.lt_or_ge k (j - 1) with h3 | h3
    · exact b_irr _ (b_tr h2 (hp k (j - 1) hk (by omega) h3))
    · have e : k = j - 1 := by omega
      subst e
      exact b_irr _ h2
  have h4 : Lat S j S[j] := by
    intro y h0 hy
    rw [List.getElem?_eq_getElem (by omega)] at hy
    injection hy with hy
    rw [← hy]
    exact hp (j - 1) j (by omega) hj (by omega)
  rcases Nat.lt_or_ge j k with h5 | h5
  · exact absurd (hp j k hj hk h5) (hm S[j] (List.getElem_mem hj) h4)
  · have e : j = k := by omega
    subst e
    rfl
/-- the next is later -/
theorem lat_next {S : List (List UInt8)} (hs : S.Pairwise (· < ·)) {j : Nat} (hj : j < S.length) : Lat S j S[j] := by
  intro y h0 hy
  rw [List.getElem?_eq_getElem (by omega)] at hy
  injection hy with hy
  rw [← hy]
  exact List.pairwise_iff_getElem.1 hs (j - 1) j (by omega) hj (by omega)
/-- the least of the first i that is later -/
def Best (l : List (ByteArray × ByteArray)) (p : List UInt8 → Prop) (i : Nat) (b : Int) : Prop :=
  (b = -1 ∧ ∀ k, ∀ h : k < l.length, k < i → ¬ p l[k].1.data.toList) ∨
  ∃ m, ∃ h : m < l.length, b = (m : Int) ∧ m < i ∧ p l[m].1.data.toList ∧ ∀ k, ∀ h' : k < l.length, k < i → p l[k].1.data.toList → ¬ l[k].1.data.toList < l[m].1.data.toList
theorem best_zero (l : List (ByteArray × ByteArray)) (p : List UInt8 → Prop) : Best l p 0 (-1) := .inl ⟨rfl, fun k _ hk => by omega⟩
/-- a new least -/
theorem best_take {l : List (ByteArray × ByteArray)} {p : List UInt8 → Prop} {i : Nat} {b : Int} (h : Best l p i b) (hi : i < l.length) (hp : p l[i].1.data.toList) (hb : b = -1 ∨ ∃ m, ∃ h : m < l.length, b = (m : Int) ∧ l[i].1.data.toList < l[m].1.data.toList) : Best l p (i + 1) i := by
  refine .inr ⟨i, hi, rfl, by omega, hp, fun k hk hki hpk => ?_⟩
  rcases Nat.lt_or_ge k i with h1 | h1
  · rcases h with ⟨_, h2⟩ | ⟨m, hm, hbm, _, _, h2⟩
    · exact absurd hpk (h2 k hk h1)
    · rcases hb with hb | ⟨m', hm', hb', hlt⟩
      · omega
      · have e : m = m' := by omega
        subst e
        exact fun h3 => h2 k hk h1 hpk (b_tr h3 hlt)
  · have e : k = i := by omega
    subst e
    exact b_irr _
/-- none -/
theorem best_skip {l : List (ByteArray × ByteArray)} {p : List UInt8 → Prop} {i : Nat} {b : Int} (h : Best l p i b) (hi : i < l.length) (hb : p l[i].1.data.toList → ∃ m, ∃ h : m < l.length, b = (m : Int) ∧ ¬ l[i].1.data.toList < l[m].1.data.toList) : Best l p (i + 1) b := by
  rcases h with ⟨rfl, h2⟩ | ⟨m, hm, rfl, hmi, hpm, h2⟩
  · refine .inl ⟨rfl, fun k hk hki hpk => ?_⟩
    rcases Nat.lt_or_ge k i with h1 | h1
    · exact h2 k hk h1 hpk
    · have e : k = i := by omega
      subst e
      obtain ⟨m, _, h3, _⟩ := hb hpk
      omega
  · refine .inr ⟨m, hm, rfl, by omega, hpm, fun k hk hki hpk => ?_⟩
    rcases Nat.lt_or_ge k i with h1 | h1
    · exact h2 k hk h1 hpk
    · have e : k = i := by omega
      subst e
      obtain ⟨m', _, h3, h4⟩ := hb hpk
      have e : m = m' := by omega
      subst e
      exact h4
/-- at the end: the next name's place -/
theorem best_end {l : List (ByteArray × ByteArray)} (hn : (l.map (·.1)).Nodup) {j : Nat} (hj : j < l.length) {b : Int} (h : Best l (Lat (nmA l) j) l.length b) :
    ∃ m, ∃ hm : m < l.length, b = (m : Int) ∧ l[m].1.data.toList = (nmA l)[j]'(by rw [nmA_len]; exact hj) ∧ l[m].2.data.toList = datA l ((nmA l)[j]'(by rw [nmA_len]; exact hj)) := by
  have hj' : j < (nmA l).length := by rw [nmA_len]; exact hj
  have hs := nmA_lt l hn
  rcases h with ⟨_, h2⟩ | ⟨m, hm, rfl, _, hpm, h2⟩
  · have h3 : (nmA l)[j] ∈ l.map fun o => o.1.data.toList := (nmA_mem l _).1 (List.getElem_mem hj')
    obtain ⟨k, hk, ek⟩ := List.getElem_of_mem h3
    rw [List.length_map] at hk
    rw [List.getElem_map] at ek
    exact absurd (by rw [ek]; exact lat_next hs hj') (h2 k hk hk)
  · have e : l[m].1.data.toList = (nmA l)[j] := sel_at hs hj' ((nmA_mem l _).2 (List.mem_map.2 ⟨l[m], List.getElem_mem hm, rfl⟩)) hpm fun y hy hly => by
      obtain ⟨k, hk, ek⟩ := List.getElem_of_mem ((nmA_mem l y).1 hy)
      rw [List.length_map] at hk
      rw [List.getElem_map] at ek
      subst ek
      exact h2 k hk hk hly
    exact ⟨m, hm, rfl, e, by rw [← e]; exact (datA_at l hn _ (List.getElem_mem hm)).symm⟩
end Go.Proofs.YtadinjaocnlglaaGreatDoor
