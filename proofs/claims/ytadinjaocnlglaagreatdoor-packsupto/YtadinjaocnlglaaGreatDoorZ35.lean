/-
  A desk: its book, and Writers beside one another, each with what is its own.
  Write of the document's Writer, where it is refused.
  Write of the document's Writer, where the bytes are put behind the others.
-/
import Derived.Test.YtadinjaocnlglaaGreatDoorZ33
import Derived.Test.YtadinjaocnlglaaGreatDoorZ34
namespace Go.Proofs.YtadinjaocnlglaaGreatDoor
open Go.RowKit
set_option maxRecDepth 100000
set_option maxHeartbeats 1000000
theorem YI.mono {y : Nat} {S T : Nat → Prop} {A : AW} {w : World} (h : YI y S A w) (hT : ∀ j, S j → T j) (hl : ∀ j, T j → j < w.heap.size) : YI y T A w := by
  obtain ⟨vn, vd, vb, h1, h2, h3, h4, h5, h6, h7, h8⟩ := h.cells
  exact ⟨hT _ h.sy, hl, vn, vd, vb, h1, h2, h3, h4, fun q hq => hT q (h5 q hq), fun q hq => hT q (h6 q hq), fun q hq => hT q (h7 q hq), h8⟩
/-- no error's block is among them -/
def No307 (S : Nat → Prop) (w : World) : Prop := ∀ j, S j → ∀ cs, w.heap[j]? ≠ some (.cells cs 307 (0, 0))
theorem YI.exact {y : Nat} {S : Nat → Prop} {A : AW} {w : World} (h : YI y S A w) : ∃ T, (∀ j, T j → S j) ∧ YI y T A w ∧ No307 T w := by
  obtain ⟨vn, vd, vb, h1, h2, h3, h4, h5, h6, h7, h8⟩ := h.cells
  refine ⟨fun j => j = y ∨ vn.ownBlock = some j ∨ vd.ownBlock = some j ∨ vb.ownBlock = some j, ?_, ⟨.inl rfl, ?_, vn, vd, vb, h1, h2, h3, h4, fun q hq => .inr (.inl hq), fun q hq => .inr (.inr (.inl hq)), fun q hq => .inr (.inr (.inr hq)), h8⟩, ?_⟩
  · rintro j (rfl | hj | hj | hj)
    · exact h.sy
    · exact h5 j hj
    · exact h6 j hj
    · exact h7 j hj
  · rintro j (rfl | hj | hj | hj)
    · exact h.lt _ h.sy
    · exact h.lt _ (h5 j hj)
    · exact h.lt _ (h6 j hj)
    · exact h.lt _ (h7 j hj)
  · rintro j (rfl | hj | hj | hj) cs e
    · rw [h1] at e; simp at e
    · obtain ⟨cur, hc⟩ := own_type h2 j hj
      rw [hc] at e; simp at e
    · obtain ⟨cur, hc⟩ := own_type h3 j hj
      rw [hc] at e; simp at e
    · obtain ⟨cur, hc⟩ := own_type h4 j hj
      rw [hc] at e; simp at e
theorem ErrAt.fr {S : Nat → Prop} {w w' : World} {v : Value} {l : List (Int × Int)} (h : ErrAt w v l) (hf : Fr S w w') (hn : No307 S w) : ErrAt w' v l :=
  h.kept fun e cs he => hf.old e (Array.getElem?_eq_some_iff.1 he).1 (fun hs => hn e hs cs he)
/-- a Writer of the desk: its block, the two sides, and what each has -/
structure Pe where
  p : Nat
  x : Nat
  y : Nat
  ax : AW
  ay : AW
structure DK (base d : Nat) (c : Nat → Nat) (ps : List Pe) (X : List En) (w : World) : Prop where
  lo : ∀ j, c j ≠ 0 → base ≤ j ∧ j < w.heap.size
  cd : c d = 1
  row : ∃ l0 v, w.heap[d]? = some (.cells #[l0, .int .i64 X.length, v, .slice none 0 0, .slice none 0 0, .slice none 0 0, .bool false] 34 (0, 0)) ∧ w.ownsRow base 191 5 v X.length (flat X) ∧ (∀ q, v.ownBlock = some q → c q = 1) ∧
    w.ownsRow base 115 1 l0 ps.length (ps.map fun e => .pointer (some ⟨e.p, 0, none⟩)) ∧ (∀ q, l0.ownBlock = some q → c q = 1)
  ok : ∀ e ∈ X, e.ok w ∧ ∀ q, e.has q → c q = 1
  pen : ∀ i (h : i < ps.length), (∃ vo rt, w.heap[ps[i].p]? = some (.cells #[.pointer (some ⟨ps[i].x, 0, none⟩), .pointer (some ⟨ps[i].y, 0, none⟩), vo, .string rt] 114 (0, 0))) ∧ c ps[i].p = 1 ∧
    XI ps[i].x (fun j => c j = 2 + 2 * i) ps[i].ax w ∧ YI ps[i].y (fun j => c j = 3 + 2 * i) ps[i].ay w
theorem fullRow_kept {w w' : World} {a : Option Addr} {k : Nat} {m : ByteArray} (h : FullRow w a k m) (hk : ∀ q cur, (Value.slice a k k).ownBlock = some q → w.heap[q]? = some (.cells cur 9 (0, 0)) → w'.heap[q]? = w.heap[q]?) : FullRow w' a k m := by
  rcases h with h | ⟨g, cur, h1, h2, h3⟩
  · exact .inl h
  · exact .inr ⟨g, cur, h1, by rw [hk g cur (by rw [h1]; rfl) h2]; exact h2, h3⟩
theorem full_kept {w w' : World} {v : Value} {m : ByteArray} (h : Full w v m) (hk : ∀ q cur, v.ownBlock = some q → w.heap[q]? = some (.cells cur 9 (0, 0)) → w'.heap[q]? = w.heap[q]?) : Full w' v m := by
  obtain ⟨a, n, c, rfl, h2, h3⟩ := h
  refine ⟨a, n, c, rfl, h2, fullRow_kept h3 (fun q cur hq => hk q cur ?_)⟩
  cases a <;> exact hq
theorem en_kept2 {w w' : World} {e : En} (h : e.ok w) (hk : ∀ q cur, e.has q → w.heap[q]? = some (.cells cur 9 (0, 0)) → w'.heap[q]? = w.heap[q]?) : e.ok w' :=
  ⟨full_kept h.1 (fun q cur hq => hk q cur (.inl hq)), full_kept h.2.1 (fun q cur hq => hk q cur (.inr (.inl hq))), full_kept h.2.2.1 (fun q cur hq => hk q cur (.inr (.inr (.inl hq)))), full_kept h.2.2.2 (fun q cur hq => hk q cur (.inr (.inr (.inr hq))))⟩
theorem en_kept {w w' : World} {e : En} (h : e.ok w) (hk : ∀ q, e.has q → w'.heap[q]? = w.heap[q]?) : e.ok w' := en_kept2 h (fun q _ hq _ => hk q hq)
/-- what is not written stays -/
theorem DK.below {base d : Nat} {c : Nat → Nat} {ps : List Pe} {X : List En} {w w' : World} (h : DK base d c ps X w) (hb : Below w.heap.size w w') : DK base d c ps X w' := by
  have hk : ∀ j, c j ≠ 0 → w'.heap[j]? = w.heap[j]? := fun j hj => hb.block j (h.lo j hj).2
  obtain ⟨l0, v, h1, h2, h3, h4, h5⟩ := h.row
  refine ⟨fun j hj => ⟨(h.lo j hj).1, Nat.lt_of_lt_of_le (h.lo j hj).2 hb.size⟩, h.cd, ⟨l0, v, by rw [hk d (by rw [h.cd]; decide)]; exact h1, own_below h2 hb, h3, own_below h4 hb, h5⟩, fun e he => ⟨en_kept (h.ok e he).1 (fun q hq => hk q (by rw [(h.ok e he).2 q hq]; decide)), (h.ok e he).2⟩, fun i hi => ?_⟩
  obtain ⟨⟨vo, rt, k1⟩, k2, k3, k4⟩ := h.pen i hi
  exact ⟨⟨vo, rt, by rw [hk _ (by rw [k2]; decide)]; exact k1⟩, k2, k3.kept hb.size (fun j hj => hk j (by omega)), k4.kept hb.size (fun j hj => hk j (by omega))⟩
/-- the new blocks of one owner -/
structure Rc (c : Nat → Nat) (k n : Nat) (S : Nat → Prop) (c' : Nat → Nat) : Prop where
  old : ∀ j, j < n → c' j = c j
  new : ∀ j, ¬ j < n → S j → c' j = k
  out : ∀ j, ¬ j < n → ¬ S j → c' j = 0
theorem rc_ex (c : Nat → Nat) (k n : Nat) (S : Nat → Prop) : ∃ c', Rc c k n S c' := by
  classical
  exact ⟨fun j => if j < n then c j else if S j then k else 0, fun j h => if_pos h, fun j h hs => by simp [h, hs], fun j h hs => by simp [h, hs]⟩
theorem Rc.oth {base n : Nat} {c c' : Nat → Nat} {k k2 : Nat} {S : Nat → Prop} (hR : Rc c k n S c') (hlo : ∀ j, c j ≠ 0 → base ≤ j ∧ j < n) (hk : k2 ≠ k) (h0 : k2 ≠ 0) : (fun j => c' j = k2) = fun j => c j = k2 := by
  funext j
  apply propext
  by_cases h : j < n
  · rw [hR.old j h]
  · have hc : c j = 0 := by
      apply Decidable.byContradiction
      intro hne
      exact h (hlo j hne).2
    by_cases hs : S j
    · rw [hR.new j h hs, hc]; exact ⟨fun e => absurd e.symm hk, fun e => absurd e.symm h0⟩
    · rw [hR.out j h hs, hc]
theorem Rc.lo {base n m : Nat} {c c' : Nat → Nat} {k : Nat} {S : Nat → Prop} (hR : Rc c k n S c') (hlo : ∀ j, c j ≠ 0 → base ≤ j ∧ j < n) (hb : base ≤ n) (hm : n ≤ m) (hS : ∀ j, S j → j < m) : ∀ j, c' j ≠ 0 → base ≤ j ∧ j < m := by
  intro j hj
  by_cases h : j < n
  · rw [hR.old j h] at hj; have := hlo j hj; omega
  · by_cases hs : S j
    · exact ⟨by omega, hS j hs⟩
    · exact absurd (hR.out j h hs) hj
theorem Rc.all {n : Nat} {c c' : Nat → Nat} {k : Nat} {S S' : Nat → Prop} (hR : Rc c k n S' c') (hS : ∀ j, S j → c j = k) (hG : Gro S S' n) : ∀ j, S' j → c' j = k := by
  intro j hj
  by_cases h : j < n
  · rw [hR.old j h]
    rcases hG j hj with h1 | h1
    · exact hS j h1
    · omega
  · exact hR.new j h hj
/-- what is left of the desk when the owner of colour k has worked -/
theorem DK.others {base d k : Nat} {c c' : Nat → Nat} {ps : List Pe} {X : List En} {w w' : World} {S S' : Nat → Prop} (h : DK base d c ps X w) (hb : base ≤ w.heap.size) (hk2 : 2 ≤ k) (hS : ∀ j, S j → c j = k) (hS' : ∀ j, S' j → j < w'.heap.size) (hF : Fr S w w') (hR : Rc c k w.heap.size S' c') :
    (∀ j, c' j ≠ 0 → base ≤ j ∧ j < w'.heap.size) ∧ c' d = 1 ∧
    (∃ l0 v, w'.heap[d]? = some (.cells #[l0, .int .i64 X.length, v, .slice none 0 0, .slice none 0 0, .slice none 0 0, .bool false] 34 (0, 0)) ∧ w'.ownsRow base 191 5 v X.length (flat X) ∧ (∀ q, v.ownBlock = some q → c' q = 1) ∧
      w'.ownsRow base 115 1 l0 ps.length (ps.map fun e => .pointer (some ⟨e.p, 0, none⟩)) ∧ (∀ q, l0.ownBlock = some q → c' q = 1)) ∧
    (∀ e ∈ X, e.ok w' ∧ ∀ q, e.has q → c' q = 1) ∧
    (∀ i (h : i < ps.length), (∃ vo rt, w'.heap[ps[i].p]? = some (.cells #[.pointer (some ⟨ps[i].x, 0, none⟩), .pointer (some ⟨ps[i].y, 0, none⟩), vo, .string rt] 114 (0, 0))) ∧ c' ps[i].p = 1 ∧
      (2 + 2 * i ≠ k → XI ps[i].x (fun j => c' j = 2 + 2 * i) ps[i].ax w') ∧ (3 + 2 * i ≠ k → YI ps[i].y (fun j => c' j = 3 + 2 * i) ps[i].ay w')) := by
  have hkeep : ∀ j, c j ≠ 0 → c j ≠ k → w'.heap[j]? = w.heap[j]? := fun j h0 hne => hF.old j (h.lo j h0).2 (fun hs => hne (hS j hs))
  have h1c : ∀ j, c j = 1 → c' j = 1 := fun j hj => by rw [hR.old j (h.lo j (by omega)).2]; exact hj
  have h1k : ∀ j, c j = 1 → w'.heap[j]? = w.heap[j]? := fun j hj => hkeep j (by omega) (by omega)
  obtain ⟨l0, v, r1, r2, r3, r4, r5⟩ := h.row
  refine ⟨hR.lo h.lo hb hF.size hS', h1c d h.cd, ⟨l0, v, by rw [h1k d h.cd]; exact r1, own_kept r2 (fun q hq => h1k q (r3 q hq)), fun q hq => h1c q (r3 q hq), own_kept r4 (fun q hq => h1k q (r5 q hq)), fun q hq => h1c q (r5 q hq)⟩,
    fun e he => ⟨en_kept (h.ok e he).1 (fun q hq => h1k q ((h.ok e he).2 q hq)), fun q hq => h1c q ((h.ok e he).2 q hq)⟩, fun i hi => ?_⟩
  obtain ⟨⟨vo, rt, k1⟩, k2, k3, k4⟩ := h.pen i hi
  refine ⟨⟨vo, rt, by rw [h1k _ k2]; exact k1⟩, h1c _ k2, fun hne => ?_, fun hne => ?_⟩
  · rw [hR.oth h.lo hne (by omega)]
    exact k3.kept hF.size (fun j hj => hkeep j (by omega) (by omega))
  · rw [hR.oth h.lo hne (by omega)]
    exact k4.kept hF.size (fun j hj => hkeep j (by omega) (by omega))
def setX (ps : List Pe) (i : Nat) (A : AW) : List Pe := ps.modify i fun e => { e with ax := A }
def setY (ps : List Pe) (i : Nat) (A : AW) : List Pe := ps.modify i fun e => { e with ay := A }
theorem setX_ptr (ps : List Pe) (i : Nat) (A : AW) : (setX ps i A).map (fun e => Value.pointer (some ⟨e.p, 0, none⟩)) = ps.map fun e => Value.pointer (some ⟨e.p, 0, none⟩) := by
  apply List.ext_getElem?
  intro j
  simp only [setX, List.getElem?_map, List.getElem?_modify]
  by_cases e : i = j
  · subst e; cases ps[i]? <;> simp
  · simp [e]
theorem setY_ptr (ps : List Pe) (i : Nat) (A : AW) : (setY ps i A).map (fun e => Value.pointer (some ⟨e.p, 0, none⟩)) = ps.map fun e => Value.pointer (some ⟨e.p, 0, none⟩) := by
  apply List.ext_getElem?
  intro j
  simp only [setY, List.getElem?_map, List.getElem?_modify]
  by_cases e : i = j
  · subst e; cases ps[i]? <;> simp
  · simp [e]
theorem DK.xdid {base d : Nat} {c : Nat → Nat} {ps : List Pe} {X : List En} {w w' : World} {A : AW} (h : DK base d c ps X w) (hb : base ≤ w.heap.size) (i : Nat) (hi : i < ps.length) (hD : XDid ps[i].x (fun j => c j = 2 + 2 * i) A w w') :
    ∃ c', DK base d c' (setX ps i A) X w' ∧ ∀ j, j < w.heap.size → c' j = c j := by
  obtain ⟨S', hX, hG, hF⟩ := hD
  obtain ⟨c', hR⟩ := rc_ex c (2 + 2 * i) w.heap.size S'
  obtain ⟨a1, a2, ⟨l0, v, r1, r2, r3, r4, r5⟩, a4, a5⟩ := h.others hb (k := 2 + 2 * i) (S' := S') (by omega) (fun j hj => hj) hX.lt hF hR
  refine ⟨c', ⟨a1, a2, ⟨l0, v, r1, r2, r3, ?_, r5⟩, a4, fun m hm => ?_⟩, fun j hj => hR.old j hj⟩
  · rw [setX_ptr]
    have : (setX ps i A).length = ps.length := by simp [setX]
    rw [this]; exact r4
  · have hm' : m < ps.length := by simpa [setX] using hm
    obtain ⟨b1, b2, b3, b4⟩ := a5 m hm'
    by_cases e : i = m
    · subst e
      have e1 : (setX ps i A)[i] = { ps[i] with ax := A } := by simp [setX]
      rw [e1]
      exact ⟨b1, b2, hX.mono (hR.all (S := fun j => c j = 2 + 2 * i) (fun j hj => hj) hG) (fun j hj => (a1 j (by omega)).2), b4 (by omega)⟩
    · have e1 : (setX ps i A)[m] = ps[m] := by simp [setX, e]
      rw [e1]
      exact ⟨b1, b2, b3 (by omega), b4 (by omega)⟩
theorem DK.ydid {base d : Nat} {c : Nat → Nat} {ps : List Pe} {X : List En} {w w' : World} {A : AW} {T : Nat → Prop} (h : DK base d c ps X w) (hb : base ≤ w.heap.size) (i : Nat) (hi : i < ps.length) (hT : ∀ j, T j → c j = 3 + 2 * i) (hD : YDid ps[i].y T A w w') :
    ∃ c', DK base d c' (setY ps i A) X w' ∧ ∀ j, j < w.heap.size → c' j = c j := by
  obtain ⟨S', hY, hG, hF⟩ := hD
  obtain ⟨c', hR⟩ := rc_ex c (3 + 2 * i) w.heap.size S'
  obtain ⟨a1, a2, ⟨l0, v, r1, r2, r3, r4, r5⟩, a4, a5⟩ := h.others hb (k := 3 + 2 * i) (S' := S') (by omega) hT hY.lt hF hR
  refine ⟨c', ⟨a1, a2, ⟨l0, v, r1, r2, r3, ?_, r5⟩, a4, fun m hm => ?_⟩, fun j hj => hR.old j hj⟩
  · rw [setY_ptr]
    have : (setY ps i A).length = ps.length := by simp [setY]
    rw [this]; exact r4
  · have hm' : m < ps.length := by simpa [setY] using hm
    obtain ⟨b1, b2, b3, b4⟩ := a5 m hm'
    by_cases e : i = m
    · subst e
      have e1 : (setY ps i A)[i] = { ps[i] with ay := A } := by simp [setY]
      rw [e1]
      exact ⟨b1, b2, b3 (by omega), hY.mono (hR.all hT hG) (fun j hj => (a1 j (by omega)).2)⟩
    · have e1 : (setY ps i A)[m] = ps[m] := by simp [setY, e]
      rw [e1]
      exact ⟨b1, b2, b3 (by omega), b4 (by omega)⟩
theorem DK.xsame {base d : Nat} {c : Nat → Nat} {ps : List Pe} {X : List En} {w w' : World} {A : AW} (h : DK base d c ps X w) (hb : base ≤ w.heap.size) (i : Nat) (hi : i < ps.length) (hX : XI ps[i].x (fun j => c j = 2 + 2 * i) A w') (hF : Fr (fun j => c j = 2 + 2 * i) w w') :
    DK base d c (setX ps i A) X w' := by
  have hR : Rc c (2 + 2 * i) w.heap.size (fun _ => False) c := ⟨fun _ _ => rfl, fun _ _ h => h.elim, fun j hj _ => by
    apply Decidable.byContradiction
    intro hne
    exact hj (h.lo j hne).2⟩
  obtain ⟨a1, a2, ⟨l0, v, r1, r2, r3, r4, r5⟩, a4, a5⟩ := h.others hb (k := 2 + 2 * i) (S' := fun _ => False) (by omega) (fun j hj => hj) (fun _ h => h.elim) hF hR
  refine ⟨a1, a2, ⟨l0, v, r1, r2, r3, ?_, r5⟩, a4, fun m hm => ?_⟩
  · rw [setX_ptr]
    have : (setX ps i A).length = ps.length := by simp [setX]
    rw [this]; exact r4
  · have hm' : m < ps.length := by simpa [setX] using hm
    obtain ⟨b1, b2, b3, b4⟩ := a5 m hm'
    by_cases e : i = m
    · subst e
      have e1 : (setX ps i A)[i] = { ps[i] with ax := A } := by simp [setX]
      rw [e1]
      exact ⟨b1, b2, hX, b4 (by omega)⟩
    · have e1 : (setX ps i A)[m] = ps[m] := by simp [setX, e]
      rw [e1]
      exact ⟨b1, b2, b3 (by omega), b4 (by omega)⟩
/-- a list is kept -/
theorem DK.keep {base d g : Nat} {c : Nat → Nat} {ps : List Pe} {X : List En} {w w' : World} {l0 v v' : Value} {x : En} (h : DK base d c ps X w) (hg : c g = 0) (hgb : base ≤ g)
    (h1 : w.heap[d]? = some (.cells #[l0, .int .i64 X.length, v, .slice none 0 0, .slice none 0 0, .slice none 0 0, .bool false] 34 (0, 0)))
    (k1 : w'.heap[d]? = some (.cells #[l0, .int .i64 (X.length + 1 : Nat), v', .slice none 0 0, .slice none 0 0, .slice none 0 0, .bool false] 34 (0, 0)))
    (k2 : w'.ownsRow base 191 5 v' (X.length + 1) (flat (X ++ [x]))) (k3 : x.ok w') (k4 : KpX g d v w w') (k5 : Below base w w') (k6 : v'.ownBlock = v.ownBlock ∨ ∃ q, v'.ownBlock = some q ∧ w.heap.size ≤ q) (k78 : ∀ q, x.has q → (q = g ∨ w.heap.size ≤ q) ∧ q < w'.heap.size) (hb : base ≤ w.heap.size) :
    ∃ c', DK base d c' ps (X ++ [x]) w' ∧ ∀ j, j < w.heap.size → j ≠ g → c' j = c j := by
  have k7 := fun q hq => (k78 q hq).1
  have k8 := fun q hq => (k78 q hq).2
  obtain ⟨l0', v0, r1, r2, r3, r4, r5⟩ := h.row
  rw [h1] at r1
  have e : l0 = l0' ∧ v = v0 := by simp at r1; exact r1
  obtain ⟨rfl, rfl⟩ := e
  have hdl := (h.lo d (by rw [h.cd]; decide)).2
  have hvn : ∀ q, v.ownBlock = some q → ∃ cur, w.heap[q]? = some (.cells cur 191 (0, 0)) := own_type r2
  have hsz := k5.size
  classical
  have hR : ∃ c' : Nat → Nat, (∀ j, (v'.ownBlock = some j ∨ x.has j) → c' j = 1) ∧ (∀ j, ¬ (v'.ownBlock = some j ∨ x.has j) → c' j = c j) := ⟨fun j => if v'.ownBlock = some j ∨ x.has j then 1 else c j, fun j hj => if_pos hj, fun j hj => if_neg hj⟩
  obtain ⟨c', hc1, hc2⟩ := hR
  have hnew : ∀ j, (v'.ownBlock = some j ∨ x.has j) → c j = 1 ∨ c j = 0 := fun j hj => by
    rcases hj with hj | hj
    · rcases k6 with e | ⟨q, e, hq⟩
      · rw [e] at hj; exact .inl (r3 j hj)
      · rw [e] at hj; obtain rfl := Option.some.inj hj
        right
        apply Decidable.byContradiction
        intro hne
        have := (h.lo q hne).2; omega
    · rcases k7 j hj with rfl | hq
      · exact .inr hg
      · right
        apply Decidable.byContradiction
        intro hne
        have := (h.lo j hne).2; omega
  have hone : ∀ j, c j = 1 → c' j = 1 := fun j hj => by
    by_cases hh : v'.ownBlock = some j ∨ x.has j
    · exact hc1 j hh
    · rw [hc2 j hh]; exact hj
  have hset : ∀ k, 2 ≤ k → (fun j => c' j = k) = fun j => c j = k := fun k hk => by
    funext j
    apply propext
    by_cases hh : v'.ownBlock = some j ∨ x.has j
    · rw [hc1 j hh]
      have := hnew j hh
      constructor <;> intro hx <;> omega
    · rw [hc2 j hh]
  have hkeep : ∀ j, c j ≠ 0 → j ≠ d → v.ownBlock ≠ some j → w'.heap[j]? = w.heap[j]? := fun j h0 h1 h2 => k4 j (h.lo j h0).2 (fun e => h0 (by rw [e]; exact hg)) h1 h2
  have hk2 : ∀ k j, 2 ≤ k → c j = k → w'.heap[j]? = w.heap[j]? := fun k j hk hj => hkeep j (by omega) (fun e => by rw [e, h.cd] at hj; omega) (fun e => by have := r3 j e; omega)
  refine ⟨c', ⟨?_, hone d h.cd, ⟨l0, v', by rw [k1]; simp, by simpa using k2, fun q hq => hc1 q (.inl hq), ?_, fun q hq => hone q (r5 q hq)⟩, ?_, fun i hi => ?_⟩, ?_⟩
  · intro j hj
    by_cases hh : v'.ownBlock = some j ∨ x.has j
    · rcases hh with hh | hh
      · exact ⟨own_ge k2 j hh, own_lt k2 j hh⟩
      · refine ⟨?_, k8 j hh⟩
        rcases k7 j hh with rfl | hq
        · exact hgb
        · omega
    · rw [hc2 j hh] at hj
      have := h.lo j hj; omega
  · refine own_kept r4 (fun q hq => hkeep q (by rw [r5 q hq]; decide) (fun e => ?_) (fun e => ?_))
    · obtain ⟨cur, hc⟩ := own_type r4 q hq
      rw [e, h1] at hc; simp at hc
    · obtain ⟨cur, hc⟩ := own_type r4 q hq
      obtain ⟨cur', hc'⟩ := hvn q e
      rw [hc] at hc'; simp at hc'
  · intro e he
    rcases List.mem_append.1 he with he | he
    · refine ⟨en_kept2 (h.ok e he).1 (fun q cur hq hc => hkeep q (by rw [(h.ok e he).2 q hq]; decide) (fun e' => ?_) (fun e' => ?_)), fun q hq => hone q ((h.ok e he).2 q hq)⟩
      · rw [e', h1] at hc; simp at hc
      · obtain ⟨cur', hc'⟩ := hvn q e'
        rw [hc] at hc'; simp at hc'
    · simp at he
      subst he
      exact ⟨k3, fun q hq => hc1 q (.inr hq)⟩
  · obtain ⟨⟨vo, rt, p1⟩, p2, p3, p4⟩ := h.pen i hi
    refine ⟨⟨vo, rt, ?_⟩, hone _ p2, ?_, ?_⟩
    · rw [hkeep _ (by rw [p2]; decide) (fun e => by rw [e, h1] at p1; simp at p1) (fun e => by obtain ⟨cur', hc'⟩ := hvn _ e; rw [p1] at hc'; simp at hc')]
      exact p1
    · rw [hset _ (by omega)]
      exact p3.kept hsz (fun j hj => hk2 _ j (by omega) hj)
    · rw [hset _ (by omega)]
      exact p4.kept hsz (fun j hj => hk2 _ j (by omega) hj)
  · intro j hj hne
    by_cases hh : v'.ownBlock = some j ∨ x.has j
    · rw [hc1 j hh]
      rcases hh with hh | hh
      · rcases k6 with e | ⟨q, e, hq⟩
        · rw [e] at hh; exact (r3 j hh).symm
        · rw [e] at hh; obtain rfl := Option.some.inj hh; omega
      · rcases k7 j hh with e | hq
        · exact absurd e hne
        · omega
    · exact hc2 j hh
/-- what Close gave is put down -/
theorem DK.store {base d : Nat} {c : Nat → Nat} {ps : List Pe} {X : List En} {w : World} (h : DK base d c ps X w) (i : Nat) (hi : i < ps.length) (k : Nat) (v : Value) (hk : k = 2 ∨ (k = 3 ∧ ∃ t, v = .string t)) : DK base d c ps X (w.setCell ⟨ps[i].p, k, none⟩ v) := by
  obtain ⟨⟨vo0, rt0, p1⟩, p2, _, _⟩ := h.pen i hi
  have hsz : (w.setCell ⟨ps[i].p, k, none⟩ v).heap.size = w.heap.size := by simp [World.setCell]
  have ho : ∀ q, q ≠ ps[i].p → (w.setCell ⟨ps[i].p, k, none⟩ v).heap[q]? = w.heap[q]? := fun q hq => set_other _ _ _ _ _ hq
  have hne : ∀ q cs t, t ≠ 114 → w.heap[q]? = some (.cells cs t (0, 0)) → q ≠ ps[i].p := fun q cs t ht hq e => by rw [e, p1] at hq; simp at hq; exact ht hq.2.symm
  obtain ⟨l0, v0, r1, r2, r3, r4, r5⟩ := h.row
  have how : ∀ (e : TypeId) (size n : Nat) (u : Value) (xs : List Value), e ≠ 114 → w.ownsRow base e size u n xs → (w.setCell ⟨ps[i].p, k, none⟩ v).ownsRow base e size u n xs := fun e size n u xs he hw => own_kept hw (fun q hq => by obtain ⟨cur, hc⟩ := own_type hw q hq; exact ho q (hne q cur e he hc))
  refine ⟨fun j hj => by rw [hsz]; exact h.lo j hj, h.cd, ⟨l0, v0, by rw [ho d (hne d _ 34 (by decide) r1)]; exact r1, how 191 5 _ _ _ (by decide) r2, r3, how 115 1 _ _ _ (by decide) r4, r5⟩, fun e he => ⟨en_kept2 (h.ok e he).1 (fun q cur hq hc => ho q (hne q cur 9 (by decide) hc)), (h.ok e he).2⟩, fun m hm => ?_⟩
  obtain ⟨⟨vo, rt, q1⟩, q2, q3, q4⟩ := h.pen m hm
  refine ⟨?_, q2, q3.kept (by rw [hsz]; exact Nat.le_refl _) (fun j hj => ho j (fun e => by rw [e, p2] at hj; omega)), q4.kept (by rw [hsz]; exact Nat.le_refl _) (fun j hj => ho j (fun e => by rw [e, p2] at hj; omega))⟩
  by_cases e : ps[m].p = ps[i].p
  · rw [← e]
    have hs := set_heap w ps[m].p k v _ _ _ q1
    rcases hk with rfl | ⟨rfl, t, rfl⟩
    · exact ⟨v, rt, hs⟩
    · exact ⟨vo, t, hs⟩
  · exact ⟨vo, rt, by rw [ho _ e]; exact q1⟩
end Go.Proofs.YtadinjaocnlglaaGreatDoor
namespace Go.Proofs.YtadinjaocnlglaaGreatDoor
open Go.RowKit
set_option maxRecDepth 100000
set_option maxHeartbeats 4000000
theorem rwrite_state (y : Nat) (S : Nat → Prop) (A : AW) (s : ByteArray) (w : World) (hI : YI y S A w) (hs : A.state ≠ []) :
    Calls Tryz.prog 93 #[.pointer (some ⟨y, 0, none⟩), .string s] w fun e w' => ∃ v, e = .returned (.tuple #[.int .i64 0, v]) ∧ w'.ownsRow 0 250 2 v A.state.length (mkL A.state) ∧ Below w.heap.size w w' := by
  have H : Hid _ := rstate_any y S A w hI
  have hl : 0 < A.state.length := List.length_pos_iff.2 hs
  clear hI hs
  go_enter Tryz.func93, Tryz.ntmps93
  go_wp2_with fail
  refine Calls.mono H.out ?_
  rintro e w1 ⟨v, rfl, ho, hb⟩
  obtain ⟨a, k, rfl⟩ := own_shape ho
  have HO : Hid _ := ho
  have HB : Hid _ := hb
  obtain ⟨q, hq⟩ : ∃ q, A.state.length = q := ⟨_, rfl⟩
  rw [hq] at hl HO ⊢
  have HQ : Hid _ := hq
  have hl2 : (0 : Int) < (q : Int) := by omega
  clear ho hb hq
  go_wp2
  go_ret2
  exact ⟨.slice a q k, rfl, by rw [HQ.out]; exact own_le HO.out (Nat.zero_le _), HB.out⟩
theorem rwrite_none (y : Nat) (S : Nat → Prop) (A : AW) (s : ByteArray) (w : World) (hI : YI y S A w) (hs : A.state = []) (h0 : A.n = 0) :
    Calls Tryz.prog 93 #[.pointer (some ⟨y, 0, none⟩), .string s] w fun e w' => ∃ v, e = .returned (.tuple #[.int .i64 0, v]) ∧ w'.ownsRow 0 250 2 v 1 (mkL [(5, -1)]) ∧ Below w.heap.size w w' := by
  have H : Hid _ := rstate_nil y S A w hI hs
  have HI : Hid _ := hI
  clear hI hs
  go_enter Tryz.func93, Tryz.ntmps93
  go_wp2_with fail
  refine Calls.mono H.out ?_
  rintro e w1 ⟨a1, k1, rfl, hb1⟩
  have HI1 : Hid (YI y S A w1) := HI.out.open hb1
  have HB1 : Hid _ := hb1
  obtain ⟨vn, vd, vb, hy, hnn, _⟩ := HI1.out.cells
  obtain ⟨an, cn, hv⟩ := own_shape hnn
  subst hv
  have c4 : w1.cell? ⟨y, 4, none⟩ = some (.slice an A.n cn) := cell_of_row _ _ _ _ 185 _ hy
  rw [h0] at c4
  clear hb1 hnn hy
  go_wp2_with fail
  refine (at_own _ _ _).mono ?_
  rintro e w2 ⟨v2, rfl, ho2, hb2⟩
  have HO : Hid _ := ho2
  have HB : Hid (Below w.heap.size w w2) := HB1.out.trans (hb2.mono HB1.out.size)
  clear ho2 hb2
  go_wp2
  go_ret2
  exact ⟨_, rfl, own_le HO.out (Nat.zero_le _), HB.out⟩
theorem rwrite_big (y : Nat) (S : Nat → Prop) (A : AW) (s : ByteArray) (w : World) (hI : YI y S A w) (hs : A.state = []) (h0 : A.n ≠ 0) (ht : A.tot ≤ 4096) (hbig : 4096 < A.tot + s.size) (hs2 : s.size ≤ 140737488355328) :
    Calls Tryz.prog 93 #[.pointer (some ⟨y, 0, none⟩), .string s] w fun e w' => ∃ v, e = .returned (.tuple #[.int .i64 0, v]) ∧ w'.ownsRow 0 250 2 v 1 (mkL [(4, (A.tot : Int))]) ∧ YDid y S { A with br := some (4, (A.tot : Int)) } w w' := by
  have H : Hid _ := rstate_nil y S A w hI hs
  have HI : Hid _ := hI
  have h0' : ((A.n : Int) == 0) = false := by simp; omega
  clear hI hs
  go_enter Tryz.func93, Tryz.ntmps93
  go_wp2_with fail
  refine Calls.mono H.out ?_
  rintro e w1 ⟨a1, k1, rfl, hb1⟩
  have HI1 : Hid (YI y S A w1) := HI.out.open hb1
  have HB1 : Hid _ := hb1
  obtain ⟨vn, vd, vb, hy, hnn, hdd, _⟩ := HI1.out.cells
  obtain ⟨an, cn, hv⟩ := own_shape hnn
  subst hv
  obtain ⟨ad, cd, hv⟩ := own_shape hdd
  subst hv
  have c4 : w1.cell? ⟨y, 4, none⟩ = some (.slice an A.n cn) := cell_of_row _ _ _ _ 185 _ hy
  have c5 : w1.cell? ⟨y, 5, none⟩ = some (.slice ad A.n cd) := cell_of_row _ _ _ _ 185 _ hy
  have HT : Hid _ := rtotal A ad cd w1 hdd (by omega)
  have HY : Hid _ := hy
  have HBK : Hid _ := rbreaks_any 4 A.tot y A.K A.M A.C A.V (.slice an A.n cn) (.slice ad A.n cd) vb A.cl w1 hy
  have hb2 : (A.tot : Int) + (s.size : Int) > 4096 := by omega
  clear hb1 hnn hdd hy
  go_wp2_with fail
  refine Calls.mono HT.out ?_
  rintro e w1' ⟨rfl, rfl⟩
  go_wp2_with fail
  refine Calls.mono HBK.out ?_
  rintro e w2 ⟨v2, vb', rfl, ho2, hy2, hov, hf⟩
  have HO : Hid (w2.ownsRow 0 250 2 v2 1 (mkL [(4, (A.tot : Int))])) := own_le ho2 (Nat.zero_le _)
  have HD : Hid (YDid y S { A with br := some (4, (A.tot : Int)) } w w2) := YDid.after HB1.out (YDid.broke HI1.out ⟨vb, HY.out⟩ hy2 hov hf)
  clear ho2 hy2 hov hf
  go_wp2
  go_ret2
  exact ⟨_, rfl, HO.out, HD.out⟩
end Go.Proofs.YtadinjaocnlglaaGreatDoor
namespace Go.Proofs.YtadinjaocnlglaaGreatDoor
open Go.RowKit
set_option maxRecDepth 100000
set_option maxHeartbeats 4000000
/-- a text of a row turned -/
theorem own_put {w : World} {B n g cap : Nat} {l : List Value} (h : w.ownsRow B 9 1 (.slice (some ⟨g, 0, none⟩) n cap) n l) (i : Nat) (v : Value) : (w.setCell ⟨g, i, none⟩ v).ownsRow B 9 1 (.slice (some ⟨g, 0, none⟩) n cap) n (l.set i v) := by
  rcases h.2 with ⟨h1, _⟩ | ⟨g', cap', cur, hv, hb, hh, hnc, hcm, hcs, htk⟩
  · cases h1
  · simp only [Value.slice.injEq, Option.some.injEq, Addr.mk.injEq, true_and, and_true] at hv
    obtain ⟨rfl, rfl⟩ := hv
    refine ⟨by rw [List.length_set]; exact h.1, .inr ⟨g, cap, cur.setIfInBounds i v, rfl, hb, set_heap w g i v _ _ _ hh, hnc, hcm, by rw [Array.size_setIfInBounds]; exact hcs, ?_⟩⟩
    rw [Array.toList_setIfInBounds, ← htk, Nat.mul_one]
    rw [List.take_set]
theorem daV_add (s : ByteArray) (r : List (ByteArray × ByteArray)) (o : ByteArray × ByteArray) : (daV (r ++ [o])).set r.length (.string (o.2 ++ s)) = daV (addL s (r ++ [o])) := by
  rw [addL_snoc]
  simp [daV]
theorem YI.wrote {y g cd : Nat} {S : Nat → Prop} {A : AW} {w : World} {vn vb : Value} {s : ByteArray} {r : List (ByteArray × ByteArray)} {o : ByteArray × ByteArray} (h : YI y S A w) (hro : A.ob = r ++ [o]) (h1 : w.heap[y]? = some (.cells (yC A.K A.M A.C A.V vn (.slice (some ⟨g, 0, none⟩) A.n cd) vb A.cl) 185 (0, 0))) :
    YDid y S { A with ob := addL s A.ob } w (w.setCell ⟨g, r.length, none⟩ (.string (o.2 ++ s))) := by
  obtain ⟨vn0, vd0, vb0, k1, k2, k3, k4, k5, k6, k7, k8⟩ := h.cells
  rw [h1] at k1
  have e : vn = vn0 ∧ Value.slice (some ⟨g, 0, none⟩) A.n cd = vd0 ∧ vb = vb0 := by simp [yC] at k1; exact k1
  obtain ⟨rfl, rfl, rfl⟩ := e
  have hn1 : ({ A with ob := addL s A.ob } : AW).n = A.n := addL_len s A.ob
  have hgS : S g := k6 g rfl
  obtain ⟨cur, hcg⟩ := own_type k3 g rfl

  refine ⟨S, ⟨h.sy, fun j hj => by have := h.lt j hj; simpa [World.setCell] using this, vn, .slice (some ⟨g, 0, none⟩) A.n cd, vb, ?_, ?_, ?_, ?_, k5, k6, k7, k8⟩, Gro.refl _ _, (Fr.refl S w).set (g := g) (.inl hgS) _ _⟩
  · rw [set_other _ _ _ _ _ (fun e => by rw [e, hcg] at h1; simp at h1)]; exact h1
  · rw [hn1]
    have e1 : nmV (addL s A.ob) = nmV A.ob := by rw [nmV_eq, nmV_eq, addL_names]
    show (World.setCell _ _ _).ownsRow 0 9 1 vn A.n (nmV (addL s A.ob))
    rw [e1]
    exact own_kept k2 (fun q hq => set_other _ _ _ _ _ (fun e => k8 q hq (by rw [e]; rfl)))
  · rw [hn1]
    have := own_put k3 r.length (.string (o.2 ++ s))
    have e1 : (daV A.ob).set r.length (.string (o.2 ++ s)) = daV (addL s A.ob) := by rw [hro]; exact daV_add s r o
    rw [e1] at this
    exact this
  · refine own_kept k4 (fun q hq => set_other _ _ _ _ _ (fun e => ?_))
    obtain ⟨cur', hc'⟩ := own_type k4 q hq
    rw [e, hcg] at hc'; simp at hc'
theorem rwrite_ok (y : Nat) (S : Nat → Prop) (A : AW) (s : ByteArray) (w : World) (hI : YI y S A w) (hs : A.state = []) (h0 : A.n ≠ 0) (h16 : A.n ≤ 16) (hbig : A.tot + s.size ≤ 4096) :
    Calls Tryz.prog 93 #[.pointer (some ⟨y, 0, none⟩), .string s] w fun e w' => e = .returned (.tuple #[.int .i64 s.size, .slice none 0 0]) ∧ YDid y S { A with ob := addL s A.ob } w w' := by
  have H : Hid _ := rstate_nil y S A w hI hs
  have HI : Hid _ := hI
  have h0' : ((A.n : Int) == 0) = false := by simp; omega
  obtain ⟨r, o, hro⟩ := snoc_of (l := A.ob) h0
  have hn1 : A.n = r.length + 1 := by unfold AW.n; rw [hro]; simp
  have hos : o.2.size ≤ 4096 := by
    have : A.tot = sumL r + o.2.size := by unfold AW.tot; rw [hro, sumL_app]; simp [sumL]
    omega
  have HRO : Hid _ := hro
  clear hI hs hro
  go_enter Tryz.func93, Tryz.ntmps93
  go_wp2_with fail
  refine Calls.mono H.out ?_
  rintro e w1 ⟨a1, k1, rfl, hb1⟩
  have HI1 : Hid (YI y S A w1) := HI.out.open hb1
  have HB1 : Hid _ := hb1
  obtain ⟨vn, vd, vb, hy, hnn, hdd, _⟩ := HI1.out.cells
  obtain ⟨an, cn, hv⟩ := own_shape hnn
  subst hv
  obtain ⟨ad, cd, hv⟩ := own_shape hdd
  subst hv
  have hil : r.length < A.ob.length := by rw [HRO.out]; simp
  obtain ⟨g, ha, hgl, c0⟩ := da_cell (l := A.ob) hdd r.length hil
  subst ha
  have hoo : A.ob[r.length]'hil = o := by simp [HRO.out]
  rw [hoo] at c0
  obtain ⟨cur, hcg⟩ := own_type hdd g rfl
  have f0 : w1.frozen? ⟨g, r.length, none⟩ = false := frozen_of_row _ _ _ _ 9 hcg
  have c4 : w1.cell? ⟨y, 4, none⟩ = some (.slice an A.n cn) := cell_of_row _ _ _ _ 185 _ hy
  have c5 : w1.cell? ⟨y, 5, none⟩ = some (.slice (some ⟨g, 0, none⟩) A.n cd) := cell_of_row _ _ _ _ 185 _ hy
  have HT : Hid _ := rtotal A (some ⟨g, 0, none⟩) cd w1 hdd (by omega)
  have HY : Hid (w1.heap[y]? = some (.cells (yC A.K A.M A.C A.V (.slice an A.n cn) (.slice (some ⟨g, 0, none⟩) A.n cd) vb A.cl) 185 (0, 0))) := hy
  have HW : Hid (YDid y S { A with ob := addL s A.ob } w1.drew (w1.drew.setCell ⟨g, r.length, none⟩ (.string (o.2 ++ s)))) := YI.wrote (HI1.out.open ((Below.refl _ _).drew)) HRO.out hy
  have hb2 : ¬ ((A.tot : Int) + (s.size : Int) > 4096) := by omega
  have hw1 : (A.n : Int) - 1 = ((r.length : Nat) : Int) := by omega
  obtain ⟨k, hk⟩ : ∃ k, r.length = k := ⟨_, rfl⟩
  have hkn : (k : Int) < (A.n : Int) := by omega
  have hk0 : (0 : Int) ≤ (k : Int) := by omega
  have hwk : IntKind.i64.wrap ((k : Nat) : Int) = (k : Int) := by rw [IntKind.wrap_i64]; omega
  rw [hk] at c0 f0 hw1 HW
  clear hn1 hk
  have hsum : o.2.size + s.size ≤ 9223372036854775807 := by omega
  have hsum2 : ¬ 9223372036854775807 < o.2.size + s.size := by omega
  have hsum3 : ¬ o.2.size + s.size > 9223372036854775807 := by omega
  clear hb1 hnn hdd hy hcg hoo hil
  go_wp2_with fail
  refine Calls.mono HT.out ?_
  rintro e w1' ⟨rfl, rfl⟩
  go_wp2_with fail
  refine still_tail_drew 17 (by kernel_rfl) (by kernel_rfl) ?_
  simp only [List.take_succ_cons, List.take_zero, List.drop_succ_cons, List.drop_zero]
  repeat still_step
  refine wpStill_nil ?_
  go_wp2
  go_ret2
  exact ⟨rfl, YDid.after HB1.out (YDid.after ((Below.refl _ _).drew) HW.out)⟩
theorem rwrite_any (y : Nat) (S : Nat → Prop) (A : AW) (s : ByteArray) (w : World) (hI : YI y S A w) (hA : A.ok) (hs2 : s.size ≤ 140737488355328) :
    Calls Tryz.prog 93 #[.pointer (some ⟨y, 0, none⟩), .string s] w fun e w' => ∃ v, e = .returned (.tuple #[.int .i64 (if A.wrE s = [] then (s.size : Int) else 0), v]) ∧ w'.ownsRow 0 250 2 v (A.wrE s).length (mkL (A.wrE s)) ∧ YDid y S (A.wrA s) w w' := by
  by_cases hs : A.state = []
  · by_cases h0 : A.n = 0
    · have e1 : A.wrE s = [(5, -1)] := by unfold AW.wrE; rw [if_pos hs, if_pos h0]
      have e2 : A.wrA s = A := by unfold AW.wrA; rw [if_pos hs, if_pos h0]
      rw [e1, e2]
      refine (rwrite_none y S A s w hI hs h0).mono ?_
      rintro e w' ⟨v, rfl, ho, hb⟩
      exact ⟨v, by simp, ho, YDid.same hI hb⟩
    · by_cases hbig : 4096 < A.tot + s.size
      · have e1 : A.wrE s = [(4, (A.tot : Int))] := by unfold AW.wrE; rw [if_pos hs, if_neg h0, if_pos hbig]
        have e2 : A.wrA s = { A with br := some (4, (A.tot : Int)) } := by unfold AW.wrA; rw [if_pos hs, if_neg h0, if_pos hbig]
        rw [e1, e2]
        refine (rwrite_big y S A s w hI hs h0 hA.tot hbig hs2).mono ?_
        rintro e w' ⟨v, rfl, ho, hb⟩
        exact ⟨v, by simp, ho, hb⟩
      · have e1 : A.wrE s = [] := by unfold AW.wrE; rw [if_pos hs, if_neg h0, if_neg hbig]
        have e2 : A.wrA s = { A with ob := addL s A.ob } := by unfold AW.wrA; rw [if_pos hs, if_neg h0, if_neg hbig]
        rw [e1, e2]
        refine (rwrite_ok y S A s w hI hs h0 hA.n16 (by omega)).mono ?_
        rintro e w' ⟨rfl, hd⟩
        exact ⟨_, by simp, own0, hd⟩
  · have e1 : A.wrE s = A.state := by unfold AW.wrE; rw [if_neg hs]
    have e2 : A.wrA s = A := by unfold AW.wrA; rw [if_neg hs]
    rw [e1, e2, if_neg hs]
    refine (rwrite_state y S A s w hI hs).mono ?_
    rintro e w' ⟨v, rfl, ho, hb⟩
    exact ⟨v, rfl, ho, YDid.same hI hb⟩
end Go.Proofs.YtadinjaocnlglaaGreatDoor
