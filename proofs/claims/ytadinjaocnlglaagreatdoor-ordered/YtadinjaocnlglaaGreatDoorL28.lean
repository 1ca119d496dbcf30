/-
  What a Writer has after so many objects, and one object more.
  One object taken out of a list of one's own.
-/
import Derived.Test.YtadinjaocnlglaaGreatDoorL26
import Derived.Deep.RegionLaw
namespace Go.Proofs.YtadinjaocnlglaaGreatDoor
open Go.RowKit Go.Maps
set_option maxRecDepth 100000
set_option maxHeartbeats 1000000
theorem by_inj {a b : ByteArray} (h : a.data.toList = b.data.toList) : a = b := ByteArray.ext (Array.toList_inj.1 h)
/-- the data of the object with that name -/
def datOf (F : Nat → Ob) (q : Nat) (s : List UInt8) : List UInt8 := match (List.range q).find? (fun i => (F i).1.data.toList == s) with | some i => (F i).2.data.toList | none => []
theorem datOf_at {q : Nat} {F : Nat → Ob} (h : Srt q F) (i : Nat) (hi : i < q) : datOf F q (F i).1.data.toList = (F i).2.data.toList := by
  unfold datOf
  cases e : (List.range q).find? (fun j => (F j).1.data.toList == (F i).1.data.toList) with
  | none =>
    have := List.find?_eq_none.1 e i (List.mem_range.2 hi)
    simp at this
  | some j =>
    have h1 := List.find?_some e
    have h2 := List.mem_range.1 (List.mem_of_find?_eq_some e)
    have h3 : (F j).1 = (F i).1 := by_inj (by simpa using h1)
    by_cases hne : j = i
    · subst hne; rfl
    · exact absurd h3 (h.ne j i h2 hi hne)
theorem datOf_len {q : Nat} {F : Nat → Ob} (h : Srt q F) (s : List UInt8) : (datOf F q s).length ≤ 12 := by
  unfold datOf
  split
  · rename_i i e
    have h2 := List.mem_range.1 (List.mem_of_find?_eq_some e)
    have := (h.sz i h2).2.2
    simpa using this
  · simp
theorem has_mem {D : DataW Nat} {s : List UInt8} (h : has D (.string s) = true) : s ∈ strKeys D := by
  cases D with
  | map es =>
    have h' : es.any (fun p => p.1.sameKey (.string s)) = true := h
    obtain ⟨p, hp, hk⟩ := List.any_eq_true.1 h'
    have := WideAt.sameKey_eq hk
    exact List.mem_map.2 ⟨p, hp, by rw [this]; rfl⟩
  | lit _ => cases h
  | nil => cases h
  | ptr _ => cases h
  | slice _ _ => cases h
  | agg _ => cases h
  | iface _ _ => cases h
  | held _ => cases h
theorem insert_perm (x : Lit × DataW Nat) : ∀ l : List (Lit × DataW Nat), (DataW.insert x l).Perm (x :: l)
  | [] => List.Perm.refl _
  | y :: r => by
    unfold DataW.insert
    split
    · exact List.Perm.refl _
    · exact ((insert_perm x r).cons y).trans (List.Perm.swap x y r)
theorem put_perm {D : DataW Nat} (hD : IsMap D) (s : List UInt8) (d : DataW Nat) (hno : s ∉ strKeys D) : (strKeys (D.put (.string s) d)).Perm (s :: strKeys D) := by
  obtain ⟨es, rfl⟩ := hD
  have e : es.filter (fun p => !p.1.sameKey (.string s)) = es := by
    apply List.filter_eq_self.2
    intro p hp
    cases h : p.1.sameKey (.string s) with
    | false => rfl
    | true =>
      have := WideAt.sameKey_eq h
      exact absurd (List.mem_map.2 ⟨p, hp, by rw [this]; rfl⟩) hno
  show ((DataW.insert (.string s, d) (es.filter fun p => !p.1.sameKey (.string s))).map fun p => strOf p.1).Perm (s :: es.map fun p => strOf p.1)
  rw [e]
  exact (insert_perm (.string s, d) es).map _
def tot (l : List Ob) : Nat := (l.map fun o => o.2.size).sum
def nms (l : List Ob) : List (List UInt8) := l.map fun o => o.1.data.toList
/-- what a Writer has after these objects -/
structure DInv (wb g m K M C V : Nat) (G : List UInt8 → List UInt8) (Dn : List Ob) (last : Value) (D : DataW Nat) (w : World) : Prop where
  wb : w.heap[wb]? = some (.cells (wC 0 g) 180 (0, 0))
  g : w.heap[g]? = some (.cells (dC K M C V (.map (some m)) last Dn.length (tot Dn)) 252 (0, 0))
  m : w.ownsMap Tryz.prog 9 pE m Dn.length D
  p : (strKeys D).Perm (nms Dn)
  o : Obs w D G
theorem own_base {w : World} {B B' n : Nat} {e : TypeId} {size : Nat} {v : Value} {xs : List Value} (h : w.ownsRow B e size v n xs) (hb : B' ≤ B) : w.ownsRow B' e size v n xs := by
  refine ⟨h.1, ?_⟩
  rcases h.2 with h2 | ⟨g, cap, cur, h1, h2, h3⟩
  · exact .inl h2
  · exact .inr ⟨g, cap, cur, h1, by omega, h3⟩
theorem own_move {w w' : World} {B n : Nat} {e : TypeId} {size : Nat} {v : Value} {xs : List Value} (h : w.ownsRow B e size v n xs) (hb : ∀ r cs, v.ownBlock = some r → w.heap[r]? = some (.cells cs e (0, 0)) → w'.heap[r]? = w.heap[r]?) : w'.ownsRow B e size v n xs := by
  refine ⟨h.1, ?_⟩
  rcases h.2 with h2 | ⟨g, cap, cur, h1, h2, h3, h4⟩
  · exact .inl h2
  · refine .inr ⟨g, cap, cur, h1, h2, ?_, h4⟩
    subst h1
    rw [hb g cur rfl h3]; exact h3
theorem round_end (G : List UInt8 → List UInt8) (wb g m K M C V : Nat) (Dn : List Ob) (o : Ob) (last : Value) (D : DataW Nat) (w w1 w2 w3 : World) (a b : ByteArray) (hab : a.data.toList ++ b.data.toList = o.2.data.toList)
    (hdat : G o.1.data.toList = o.2.data.toList) (hnew : o.1.data.toList ∉ strKeys D) (I : DInv wb g m K M C V G Dn last D w)
    (ob : Nat) (b1 : w.heap.size ≤ ob)
    (b5 : w1.ownsMap Tryz.prog 9 pE m (Dn.length + 1) (D.put (.string o.1.data.toList) (.held ob))) (b6 : w.heap.size ≤ w1.heap.size) (b7 : ∀ j, j < w.heap.size → j ≠ g → j ≠ m → j ≠ wb → w1.heap[j]? = w.heap[j]?) (b8 : Calm w w1)
    (dv1 : Value) (c5 : w2.ownsRow w.heap.size 5 1 dv1 (0 + a.size) ([] ++ Lib.strCells a)) (c6 : w1.heap.size ≤ w2.heap.size) (c7 : ∀ j, j < w1.heap.size → j ≠ g → j ≠ ob → j ≠ wb → some j ≠ (Value.slice none 0 0).ownBlock → w2.heap[j]? = w1.heap[j]?) (c8 : Calm w1 w2)
    (dv2 : Value) (d2 : w3.heap[wb]? = some (.cells (wC 0 g) 180 (0, 0))) (d3 : w3.heap[g]? = some (.cells (dC K M C V (.map (some m)) (.pointer (some ⟨ob, 0, none⟩)) (Dn.length + 1) (tot Dn + a.size + b.size)) 252 (0, 0))) (d4 : w3.heap[ob]? = some (.cells #[.int .i64 Dn.length, dv2] 261 (0, 0)))
    (d5 : w3.ownsRow w.heap.size 5 1 dv2 (0 + a.size + b.size) ([] ++ Lib.strCells a ++ Lib.strCells b)) (d6 : w2.heap.size ≤ w3.heap.size) (d7 : ∀ j, j < w2.heap.size → j ≠ g → j ≠ ob → j ≠ wb → some j ≠ dv1.ownBlock → w3.heap[j]? = w2.heap[j]?) (d8 : Calm w2 w3) :
    DInv wb g m K M C V G (Dn ++ [o]) (.pointer (some ⟨ob, 0, none⟩)) (D.put (.string o.1.data.toList) (.held ob)) w3 ∧ (∀ j, j < w.heap.size → j ≠ g → j ≠ m → j ≠ wb → w3.heap[j]? = w.heap[j]?) ∧ w.heap.size ≤ w3.heap.size ∧ Calm w w3 := by
  have hsz : a.size + b.size = o.2.size := by
    have := congrArg List.length hab
    rw [List.length_append, dl, dl, dl] at this; exact this
  have hfr : ∀ j, j < w.heap.size → j ≠ g → j ≠ m → j ≠ wb → w3.heap[j]? = w.heap[j]? := fun j hj h1 h2 h3 => by
    rw [d7 j (by omega) h1 (by omega) h3 (fun e => by have := own_ge c5 j e.symm; omega), c7 j (by omega) h1 (by omega) h3 (by simp [Value.ownBlock])]
    exact b7 j hj h1 h2 h3
  have hml := I.m.lt
  obtain ⟨es, ck, hm1, hm2⟩ := b5
  obtain ⟨es0, ck0, hm0, _⟩ := I.m
  have hmg : m ≠ g := fun e => by rw [e, I.g] at hm0; cases hm0
  have hmw : m ≠ wb := fun e => by rw [e, I.wb] at hm0; cases hm0
  have hm3 : w3.heap[m]? = some (.map es ck) := by
    rw [d7 m (by omega) hmg (by omega) hmw (fun e => by have := own_ge c5 m e.symm; omega), c7 m (by omega) hmg (by omega) hmw (by simp [Value.ownBlock])]
    exact hm1
  refine ⟨⟨d2, ?_, ⟨es, ck, hm3, by simpa using hm2⟩, ?_, ?_⟩, hfr, by omega, (b8.trans c8).trans d8⟩
  · have e1 : (Dn ++ [o]).length = Dn.length + 1 := by simp
    have e2 : tot (Dn ++ [o]) = tot Dn + a.size + b.size := by simp [tot, Nat.add_assoc, hsz]
    rw [e1, e2]; exact d3
  · have h1 := put_perm I.m.isMap o.1.data.toList (.held ob) hnew
    refine h1.trans ?_
    have h2 : nms (Dn ++ [o]) = nms Dn ++ [o.1.data.toList] := by simp [nms]
    rw [h2]
    exact (I.p.cons _).trans (List.perm_append_singleton _ _).symm
  · intro s hs
    have hs' := (put_perm I.m.isMap o.1.data.toList (.held ob) hnew).mem_iff.1 hs
    by_cases e : s = o.1.data.toList
    · subst e
      refine ⟨ob, _, dv2, atKey_put_same I.m.isMap (show WideAt.IsKeyLit (.string _) from trivial) _ _, d4, ?_⟩
      rw [hdat]
      have h5 := own_base d5 (Nat.zero_le _)
      have e1 : 0 + a.size + b.size = o.2.data.toList.length := by rw [dl]; omega
      have e2 : [] ++ Lib.strCells a ++ Lib.strCells b = Lib.byteCells o.2.data.toList := by rw [Lib.strCells_eq, Lib.strCells_eq, List.nil_append, ← Lib.byteCells_append, hab]
      rw [e1, e2] at h5
      exact h5
    · have hsD : s ∈ strKeys D := by
        rcases List.mem_cons.1 hs' with h | h
        · exact absurd h e
        · exact h
      obtain ⟨ob', num, v, h1, h2, h3⟩ := I.o s hsD
      have hl2 := (Array.getElem?_eq_some_iff.1 h2).1
      refine ⟨ob', num, v, ?_, ?_, ?_⟩
      · rw [atKey_put_other (by intro h; cases h; exact e rfl)]; exact h1
      · rw [hfr ob' hl2 (fun e => by rw [e, I.g] at h2; simp at h2) (fun e => by rw [e, hm0] at h2; cases h2) (fun e => by rw [e, I.wb] at h2; simp at h2)]; exact h2
      · refine own_move h3 (fun r cs hr hc => hfr r (Array.getElem?_eq_some_iff.1 hc).1 (fun e => by rw [e, I.g] at hc; simp at hc) (fun e => by rw [e, hm0] at hc; cases hc) (fun e => by rw [e, I.wb] at hc; simp at hc))
end Go.Proofs.YtadinjaocnlglaaGreatDoor
namespace Go.Proofs.YtadinjaocnlglaaGreatDoor
open Go.RowKit
set_option maxRecDepth 100000
set_option maxHeartbeats 1000000
theorem setCells_row (g : Nat) (t : TypeId) (fr : Nat × Nat) : ∀ (vs : List Value) (o : Nat) (w : World) (cur : Array Value), w.heap[g]? = some (.cells cur t fr) →
    ∃ cur', (w.setCells g o vs).heap[g]? = some (.cells cur' t fr) ∧ cur'.size = cur.size ∧ ∀ i, i < cur.size → cur'[i]? = if o ≤ i ∧ i < o + vs.length then vs[i - o]? else cur[i]?
  | [], o, w, cur, h => ⟨cur, h, rfl, fun i _ => by rw [if_neg (by simp)]⟩
  | v :: r, o, w, cur, h => by
    obtain ⟨cur', h1, h2, h3⟩ := setCells_row g t fr r (o + 1) (w.setCell ⟨g, o, none⟩ v) (cur.setIfInBounds o v) (set_heap w g o v cur t fr h)
    refine ⟨cur', h1, by simpa using h2, fun i hi => ?_⟩
    rw [h3 i (by simpa using hi)]
    by_cases e : i = o
    · subst e
      rw [if_neg (by omega), if_pos (by simp)]
      simp [hi]
    · by_cases e2 : o + 1 ≤ i ∧ i < o + 1 + r.length
      · rw [if_pos e2, if_pos (by simp; omega)]
        obtain ⟨k, rfl⟩ : ∃ k, i = o + 1 + k := ⟨i - (o + 1), by omega⟩
        rw [show o + 1 + k - (o + 1) = k by omega, show o + 1 + k - o = k + 1 by omega]
        rfl
      · rw [if_neg e2, if_neg (by simp; omega), Array.getElem?_setIfInBounds, if_neg (Ne.symm e)]
theorem setCells_other (g j : Nat) (h : j ≠ g) : ∀ (vs : List Value) (o : Nat) (w : World), (w.setCells g o vs).heap[j]? = w.heap[j]?
  | [], _, _ => rfl
  | v :: r, o, w => (setCells_other g j h r (o + 1) (w.setCell ⟨g, o, none⟩ v)).trans (set_other w g o j v h)
theorem setCells_size (g : Nat) : ∀ (vs : List Value) (o : Nat) (w : World), (w.setCells g o vs).heap.size = w.heap.size
  | [], _, _ => rfl
  | v :: r, o, w => (setCells_size g r (o + 1) (w.setCell ⟨g, o, none⟩ v)).trans (by simp [World.setCell])
theorem setCells_calm (g : Nat) : ∀ (vs : List Value) (o : Nat) (w : World), Calm w (w.setCells g o vs)
  | [], _, _ => ⟨rfl, rfl, rfl⟩
  | v :: r, o, w => setCells_calm g r (o + 1) (w.setCell ⟨g, o, none⟩ v)
def movF (G : Nat → Ob) (p r : Nat) : List Value := (List.range ((r - (p + 1)) * 2)).map fun j => fC G ((p + 1) * 2 + j)
def delF (G : Nat → Ob) (p : Nat) : Nat → Ob := fun i => if i < p then G i else G (i + 1)
theorem movF_len (G : Nat → Ob) (p r : Nat) : (movF G p r).length = (r - (p + 1)) * 2 := by simp [movF]
theorem movF_get (G : Nat → Ob) (p r j : Nat) (h : j < (r - (p + 1)) * 2) : (movF G p r)[j]? = some (fC G ((p + 1) * 2 + j)) := by simp [movF, h]
theorem movF_one (G : Nat → Ob) (p r : Nat) : ∀ u ∈ movF G p r, u.oneCell' = true := by
  intro u hu
  obtain ⟨i, _, rfl⟩ := List.mem_map.1 hu
  unfold fC
  split <;> rfl
theorem fC_del (G : Nat → Ob) (p i : Nat) : fC (delF G p) i = if i < p * 2 then fC G i else fC G (i + 2) := by
  unfold fC delF
  have e1 : (i + 2) % 2 = i % 2 := by omega
  have e2 : (i + 2) / 2 = i / 2 + 1 := by omega
  by_cases h : i < p * 2
  · rw [if_pos h, if_pos (show i / 2 < p by omega)]
  · rw [if_neg h, if_neg (show ¬ i / 2 < p by omega), e1, e2]
theorem OwnF.cur {w : World} {B n g cap : Nat} {F : Nat → Ob} (h : OwnF w B (.slice (some ⟨g, 0, none⟩) n cap) n F) : ∃ cur, w.heap[g]? = some (.cells cur 72 (0, 0)) ∧ B ≤ g ∧ n ≤ cap ∧ cap ≤ maxLen ∧ cur.size = cap * 2 ∧ ∀ i, i < n * 2 → cur[i]? = some (fC F i) := by
  rcases h.2 with ⟨h2, _⟩ | ⟨g', cap', cur, hv, hb, hh, hc1, hc2, hc3, hc4⟩
  · cases h2
  · cases hv
    refine ⟨cur, hh, hb, hc1, hc2, hc3, fun j hj => ?_⟩
    have := congrArg (fun l => l[j]?) hc4
    simp only [objF_get F n j hj] at this
    rw [← this, List.getElem?_take, if_pos hj]
    simp
theorem OwnF.del {w : World} {B r g cap : Nat} {G : Nat → Ob} (h : OwnF w B (.slice (some ⟨g, 0, none⟩) r cap) r G) (p : Nat) (hp : p < r) :
    OwnF (w.setCells g (p * 2) (movF G p r)) B (.slice (some ⟨g, 0, none⟩) (p + (r - (p + 1))) cap) (p + (r - (p + 1))) (delF G p) := by
  obtain ⟨cur, hh, hb, hc1, hc2, hc3, hc4⟩ := h.cur
  obtain ⟨cur', h1, h2, h3⟩ := setCells_row g 72 (0, 0) (movF G p r) (p * 2) w cur hh
  refine ⟨objF_len _ _, .inr ⟨g, cap, cur', rfl, hb, h1, by omega, hc2, by omega, ?_⟩⟩
  apply List.ext_getElem?
  intro i
  by_cases hi : i < (p + (r - (p + 1))) * 2
  · rw [objF_get _ _ _ hi, List.getElem?_take, if_pos hi, Array.getElem?_toList, h3 i (by omega), movF_len, fC_del]
    by_cases e : i < p * 2
    · rw [if_neg (by omega), if_pos e, hc4 i (by omega)]
    · rw [if_pos (by omega), if_neg e, movF_get _ _ _ _ (by omega), show (p + 1) * 2 + (i - p * 2) = i + 2 by omega]
  · rw [List.getElem?_take, if_neg hi, List.getElem?_eq_none (by rw [objF_len]; omega)]
theorem erase_perm : ∀ (l : List Ob) (p : Nat) (h : p < l.length), l.Perm (l[p] :: l.eraseIdx p)
  | [], _, h => by simp at h
  | x :: r, 0, _ => List.Perm.refl _
  | x :: r, p + 1, h => ((erase_perm r p (by simpa using h)).cons x).trans (List.Perm.swap _ _ _)
theorem del_perm (G : Nat → Ob) (r p : Nat) (hp : p < r) : ((List.range r).map G).Perm (G p :: (List.range (p + (r - (p + 1)))).map (delF G p)) := by
  have hl : p < ((List.range r).map G).length := by simpa using hp
  have h1 := erase_perm _ p hl
  have e1 : ((List.range r).map G)[p] = G p := by simp
  have e2 : ((List.range r).map G).eraseIdx p = (List.range (p + (r - (p + 1)))).map (delF G p) := by
    apply List.ext_getElem?
    intro i
    rw [List.getElem?_eraseIdx]
    by_cases hi : i < p
    · rw [if_pos hi]
      simp [delF, hi, show i < r by omega, show i < p + (r - (p + 1)) by omega]
    · rw [if_neg hi]
      by_cases h2 : i + 1 < r
      · simp [delF, hi, h2, show i < p + (r - (p + 1)) by omega]
      · simp [h2, show ¬ i < p + (r - (p + 1)) by omega]
  rw [e1, e2] at h1
  exact h1
end Go.Proofs.YtadinjaocnlglaaGreatDoor
