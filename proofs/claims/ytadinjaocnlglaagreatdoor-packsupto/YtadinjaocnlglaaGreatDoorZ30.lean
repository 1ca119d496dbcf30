/-
  What a Writer has after so many objects, and one object more.
  What a Draft has, told by the document's Writer; Begin, whatever it answers.
  Begin and Write of a Draft, whatever they answer.
-/
import Derived.Test.YtadinjaocnlglaaGreatDoorZ29
import Derived.Test.YtadinjaocnlglaaGreatDoorZ14
namespace Go.Proofs.YtadinjaocnlglaaGreatDoor
open Go.RowKit Go.Maps
set_option maxRecDepth 100000
set_option maxHeartbeats 1000000
theorem by_inj {a b : ByteArray} (h : a.data.toList = b.data.toList) : a = b := ByteArray.ext (Array.toList_inj.1 h)
/-- the data of the object with that name -/
def datOf (F : Nat → Ob) (q : Nat) (s : List UInt8) : List UInt8 := match (List.range q).find? (fun i => (F i).1.data.toList == s) with | some i => (F i).2.data.toList | none => []
theorem datOf_at {q : Nat} {F : Nat → Ob} (h : Srt q F) (i : Nat) (hi : i < q) : datOf F q (F i).1.data.toList = (F i).2.data.toList := by
  unfold datOf
  cases e : (List.range q).find? (fun j => (F j).1.data.toList == (F i).1.data.toList) with
  | none =>
    have := List.find?_eq_none.1 e i (List.mem_range.2 hi)
    simp at this
  | some j =>
    have h1 := List.find?_some e
    have h2 := List.mem_range.1 (List.mem_of_find?_eq_some e)
    have h3 : (F j).1 = (F i).1 := by_inj (by simpa using h1)
    by_cases hne : j = i
    · subst hne; rfl
    · exact absurd h3 (h.ne j i h2 hi hne)
theorem datOf_len {q : Nat} {F : Nat → Ob} (h : Srt q F) (s : List UInt8) : (datOf F q s).length ≤ 12 := by
  unfold datOf
  split
  · rename_i i e
    have h2 := List.mem_range.1 (List.mem_of_find?_eq_some e)
    have := (h.sz i h2).2.2
    simpa using this
  · simp
theorem has_mem {D : DataW Nat} {s : List UInt8} (h : has D (.string s) = true) : s ∈ strKeys D := by
  cases D with
  | map es =>
    have h' : es.any (fun p => p.1.sameKey (.string s)) = true := h
    obtain ⟨p, hp, hk⟩ := List.any_eq_true.1 h'
    have := WideAt.sameKey_eq hk
    exact List.mem_map.2 ⟨p, hp, by rw [this]; rfl⟩
  | lit _ => cases h
  | nil => cases h
  | ptr _ => cases h
  | slice _ _ => cases h
  | agg _ => cases h
  | iface _ _ => cases h
  | held _ => cases h
theorem insert_perm (x : Lit × DataW Nat) : ∀ l : List (Lit × DataW Nat), (DataW.insert x l).Perm (x :: l)
  | [] => List.Perm.refl _
  | y :: r => by
    unfold DataW.insert
    split
    · exact List.Perm.refl _
    · exact ((insert_perm x r).cons y).trans (List.Perm.swap x y r)
theorem put_perm {D : DataW Nat} (hD : IsMap D) (s : List UInt8) (d : DataW Nat) (hno : s ∉ strKeys D) : (strKeys (D.put (.string s) d)).Perm (s :: strKeys D) := by
  obtain ⟨es, rfl⟩ := hD
  have e : es.filter (fun p => !p.1.sameKey (.string s)) = es := by
    apply List.filter_eq_self.2
    intro p hp
    cases h : p.1.sameKey (.string s) with
    | false => rfl
    | true =>
      have := WideAt.sameKey_eq h
      exact absurd (List.mem_map.2 ⟨p, hp, by rw [this]; rfl⟩) hno
  show ((DataW.insert (.string s, d) (es.filter fun p => !p.1.sameKey (.string s))).map fun p => strOf p.1).Perm (s :: es.map fun p => strOf p.1)
  rw [e]
  exact (insert_perm (.string s, d) es).map _
def tot (l : List Ob) : Nat := (l.map fun o => o.2.size).sum
def nms (l : List Ob) : List (List UInt8) := l.map fun o => o.1.data.toList
/-- what a Writer has after these objects -/
structure DInv (wb g m K M C V : Nat) (G : List UInt8 → List UInt8) (Dn : List Ob) (last : Value) (D : DataW Nat) (w : World) : Prop where
  wb : w.heap[wb]? = some (.cells (wC 0 g) 180 (0, 0))
  g : w.heap[g]? = some (.cells (dC K M C V (.map (some m)) last Dn.length (tot Dn)) 252 (0, 0))
  m : w.ownsMap Tryz.prog 9 pE m Dn.length D
  p : (strKeys D).Perm (nms Dn)
  o : Obs w D G
theorem own_base {w : World} {B B' n : Nat} {e : TypeId} {size : Nat} {v : Value} {xs : List Value} (h : w.ownsRow B e size v n xs) (hb : B' ≤ B) : w.ownsRow B' e size v n xs := by
  refine ⟨h.1, ?_⟩
  rcases h.2 with h2 | ⟨g, cap, cur, h1, h2, h3⟩
  · exact .inl h2
  · exact .inr ⟨g, cap, cur, h1, by omega, h3⟩
theorem own_move {w w' : World} {B n : Nat} {e : TypeId} {size : Nat} {v : Value} {xs : List Value} (h : w.ownsRow B e size v n xs) (hb : ∀ r cs, v.ownBlock = some r → w.heap[r]? = some (.cells cs e (0, 0)) → w'.heap[r]? = w.heap[r]?) : w'.ownsRow B e size v n xs := by
  refine ⟨h.1, ?_⟩
  rcases h.2 with h2 | ⟨g, cap, cur, h1, h2, h3, h4⟩
  · exact .inl h2
  · refine .inr ⟨g, cap, cur, h1, h2, ?_, h4⟩
    subst h1
    rw [hb g cur rfl h3]; exact h3
theorem round_end (G : List UInt8 → List UInt8) (wb g m K M C V : Nat) (Dn : List Ob) (o : Ob) (last : Value) (D : DataW Nat) (w w1 w2 w3 : World) (a b : ByteArray) (hab : a.data.toList ++ b.data.toList = o.2.data.toList)
    (hdat : G o.1.data.toList = o.2.data.toList) (hnew : o.1.data.toList ∉ strKeys D) (I : DInv wb g m K M C V G Dn last D w)
    (ob : Nat) (b1 : w.heap.size ≤ ob)
    (b5 : w1.ownsMap Tryz.prog 9 pE m (Dn.length + 1) (D.put (.string o.1.data.toList) (.held ob))) (b6 : w.heap.size ≤ w1.heap.size) (b7 : ∀ j, j < w.heap.size → j ≠ g → j ≠ m → j ≠ wb → w1.heap[j]? = w.heap[j]?) (b8 : Calm w w1)
    (dv1 : Value) (c5 : w2.ownsRow w.heap.size 5 1 dv1 (0 + a.size) ([] ++ Lib.strCells a)) (c6 : w1.heap.size ≤ w2.heap.size) (c7 : ∀ j, j < w1.heap.size → j ≠ g → j ≠ ob → j ≠ wb → some j ≠ (Value.slice none 0 0).ownBlock → w2.heap[j]? = w1.heap[j]?) (c8 : Calm w1 w2)
    (dv2 : Value) (d2 : w3.heap[wb]? = some (.cells (wC 0 g) 180 (0, 0))) (d3 : w3.heap[g]? = some (.cells (dC K M C V (.map (some m)) (.pointer (some ⟨ob, 0, none⟩)) (Dn.length + 1) (tot Dn + a.size + b.size)) 252 (0, 0))) (d4 : w3.heap[ob]? = some (.cells #[.int .i64 Dn.length, dv2] 261 (0, 0)))
    (d5 : w3.ownsRow w.heap.size 5 1 dv2 (0 + a.size + b.size) ([] ++ Lib.strCells a ++ Lib.strCells b)) (d6 : w2.heap.size ≤ w3.heap.size) (d7 : ∀ j, j < w2.heap.size → j ≠ g → j ≠ ob → j ≠ wb → some j ≠ dv1.ownBlock → w3.heap[j]? = w2.heap[j]?) (d8 : Calm w2 w3) :
    DInv wb g m K M C V G (Dn ++ [o]) (.pointer (some ⟨ob, 0, none⟩)) (D.put (.string o.1.data.toList) (.held ob)) w3 ∧ (∀ j, j < w.heap.size → j ≠ g → j ≠ m → j ≠ wb → w3.heap[j]? = w.heap[j]?) ∧ w.heap.size ≤ w3.heap.size ∧ Calm w w3 := by
  have hsz : a.size + b.size = o.2.size := by
    have := congrArg List.length hab
    rw [List.length_append, dl, dl, dl] at this; exact this
  have hfr : ∀ j, j < w.heap.size → j ≠ g → j ≠ m → j ≠ wb → w3.heap[j]? = w.heap[j]? := fun j hj h1 h2 h3 => by
    rw [d7 j (by omega) h1 (by omega) h3 (fun e => by have := own_ge c5 j e.symm; omega), c7 j (by omega) h1 (by omega) h3 (by simp [Value.ownBlock])]
    exact b7 j hj h1 h2 h3
  have hml := I.m.lt
  obtain ⟨es, ck, hm1, hm2⟩ := b5
  obtain ⟨es0, ck0, hm0, _⟩ := I.m
  have hmg : m ≠ g := fun e => by rw [e, I.g] at hm0; cases hm0
  have hmw : m ≠ wb := fun e => by rw [e, I.wb] at hm0; cases hm0
  have hm3 : w3.heap[m]? = some (.map es ck) := by
    rw [d7 m (by omega) hmg (by omega) hmw (fun e => by have := own_ge c5 m e.symm; omega), c7 m (by omega) hmg (by omega) hmw (by simp [Value.ownBlock])]
    exact hm1
  refine ⟨⟨d2, ?_, ⟨es, ck, hm3, by simpa using hm2⟩, ?_, ?_⟩, hfr, by omega, (b8.trans c8).trans d8⟩
  · have e1 : (Dn ++ [o]).length = Dn.length + 1 := by simp
    have e2 : tot (Dn ++ [o]) = tot Dn + a.size + b.size := by simp [tot, Nat.add_assoc, hsz]
    rw [e1, e2]; exact d3
  · have h1 := put_perm I.m.isMap o.1.data.toList (.held ob) hnew
    refine h1.trans ?_
    have h2 : nms (Dn ++ [o]) = nms Dn ++ [o.1.data.toList] := by simp [nms]
    rw [h2]
    exact (I.p.cons _).trans (List.perm_append_singleton _ _).symm
  · intro s hs
    have hs' := (put_perm I.m.isMap o.1.data.toList (.held ob) hnew).mem_iff.1 hs
    by_cases e : s = o.1.data.toList
    · subst e
      refine ⟨ob, _, dv2, atKey_put_same I.m.isMap (show WideAt.IsKeyLit (.string _) from trivial) _ _, d4, ?_⟩
      rw [hdat]
      have h5 := own_base d5 (Nat.zero_le _)
      have e1 : 0 + a.size + b.size = o.2.data.toList.length := by rw [dl]; omega
      have e2 : [] ++ Lib.strCells a ++ Lib.strCells b = Lib.byteCells o.2.data.toList := by rw [Lib.strCells_eq, Lib.strCells_eq, List.nil_append, ← Lib.byteCells_append, hab]
      rw [e1, e2] at h5
      exact h5
    · have hsD : s ∈ strKeys D := by
        rcases List.mem_cons.1 hs' with h | h
        · exact absurd h e
        · exact h
      obtain ⟨ob', num, v, h1, h2, h3⟩ := I.o s hsD
      have hl2 := (Array.getElem?_eq_some_iff.1 h2).1
      refine ⟨ob', num, v, ?_, ?_, ?_⟩
      · rw [atKey_put_other (by intro h; cases h; exact e rfl)]; exact h1
      · rw [hfr ob' hl2 (fun e => by rw [e, I.g] at h2; simp at h2) (fun e => by rw [e, hm0] at h2; cases h2) (fun e => by rw [e, I.wb] at h2; simp at h2)]; exact h2
      · refine own_move h3 (fun r cs hr hc => hfr r (Array.getElem?_eq_some_iff.1 hc).1 (fun e => by rw [e, I.g] at hc; simp at hc) (fun e => by rw [e, hm0] at hc; cases hc) (fun e => by rw [e, I.wb] at hc; simp at hc))
end Go.Proofs.YtadinjaocnlglaaGreatDoor
namespace Go.Proofs.YtadinjaocnlglaaGreatDoor
open Go.RowKit Go.Maps
set_option maxRecDepth 100000
set_option maxHeartbeats 1000000
/-- the objects of a Draft in the memory -/
structure OM (w : World) (S : Nat → Prop) (obs : List (ByteArray × ByteArray)) (m : Nat) (D : DataW Nat) (B : Nat → Nat) (Dv : Nat → Value) : Prop where
  sm : S m
  map : w.ownsMap Tryz.prog 9 pE m obs.length D
  keys : (strKeys D).Perm (obs.map fun o => o.1.data.toList)
  key : ∀ i (h : i < obs.length), D.atKey (.string obs[i].1.data.toList) .nil = .held (B i)
  cell : ∀ i, i < obs.length → w.heap[B i]? = some (.cells #[.int .i64 i, Dv i] 261 (0, 0))
  row : ∀ i (h : i < obs.length), w.ownsRow 0 5 1 (Dv i) obs[i].2.size (Lib.strCells obs[i].2)
  sB : ∀ i, i < obs.length → S (B i)
  sD : ∀ i, i < obs.length → ∀ q, (Dv i).ownBlock = some q → S q
  injB : ∀ i j, i < obs.length → j < obs.length → i ≠ j → B i ≠ B j
  injD : ∀ i j q, i < obs.length → j < obs.length → i ≠ j → (Dv i).ownBlock = some q → (Dv j).ownBlock ≠ some q
theorem map_kept {w w' : World} {m n : Nat} {D : DataW Nat} (h : w.ownsMap Tryz.prog 9 pE m n D) (hk : w'.heap[m]? = w.heap[m]?) : w'.ownsMap Tryz.prog 9 pE m n D := by
  obtain ⟨es, ck, h1, h2⟩ := h
  exact ⟨es, ck, by rw [hk]; exact h1, h2⟩
theorem OM.kept {w w' : World} {S T : Nat → Prop} {obs : List (ByteArray × ByteArray)} {m : Nat} {D : DataW Nat} {B : Nat → Nat} {Dv : Nat → Value} (h : OM w S obs m D B Dv) (hT : ∀ j, S j → T j) (hk : ∀ j, S j → w'.heap[j]? = w.heap[j]?) : OM w' T obs m D B Dv :=
  ⟨hT _ h.sm, map_kept h.map (hk _ h.sm), h.keys, h.key, fun i hi => by rw [hk _ (h.sB i hi)]; exact h.cell i hi, fun i hi => own_kept (h.row i hi) (fun q hq => hk q (h.sD i hi q hq)),
   fun i hi => hT _ (h.sB i hi), fun i hi q hq => hT _ (h.sD i hi q hq), h.injB, h.injD⟩
/-- which object was begun last -/
def lastV (n : Nat) (B : Nat → Nat) : Value := if n = 0 then .pointer none else .pointer (some ⟨B (n - 1), 0, none⟩)
def AW.fst (A : AW) : Int × Int := A.br.getD (0, 0)
/-- a Draft is this Writer's -/
structure DI (g : Nat) (S : Nat → Prop) (A : AW) (w : World) : Prop where
  sg : S g
  lt : ∀ j, S j → j < w.heap.size
  cells : ∃ obj last, w.heap[g]? = some (.cells (dZ A.K A.M A.C A.V obj last A.n A.tot A.br.isSome A.fst.1 A.fst.2 A.cl) 252 (0, 0)) ∧ (A.state = [] → ∃ m D B Dv, obj = .map (some m) ∧ last = lastV A.n B ∧ OM w S A.ob m D B Dv)
theorem DI.kept {g : Nat} {S : Nat → Prop} {A : AW} {w w' : World} (h : DI g S A w) (hs : w.heap.size ≤ w'.heap.size) (hk : ∀ j, S j → w'.heap[j]? = w.heap[j]?) : DI g S A w' := by
  obtain ⟨obj, last, h1, h2⟩ := h.cells
  refine ⟨h.sg, fun j hj => Nat.lt_of_lt_of_le (h.lt j hj) hs, obj, last, by rw [hk g h.sg]; exact h1, fun hA => ?_⟩
  obtain ⟨m, D, B, Dv, h3, h4, h5⟩ := h2 hA
  exact ⟨m, D, B, Dv, h3, h4, h5.kept (fun _ h => h) hk⟩
/-- what a method leaves -/
def Did (g : Nat) (S : Nat → Prop) (A : AW) (w w' : World) : Prop := ∃ S', DI g S' A w' ∧ Gro S S' w.heap.size ∧ Fr S w w'
theorem Did.same {g : Nat} {S : Nat → Prop} {A : AW} {w w' : World} (h : DI g S A w) (hb : Below w.heap.size w w') : Did g S A w w' :=
  ⟨S, h.kept hb.size (fun j hj => hb.block j (h.lt j hj)), Gro.refl _ _, Fr.below hb⟩
/-- the Draft is broken -/
theorem Did.broke {g : Nat} {S : Nat → Prop} {A : AW} {w w' : World} {p : Int × Int} (h : DI g S A w) (hA : A.state = []) (hg : w'.heap[g]? = some (.cells (dZ A.K A.M A.C A.V (.map none) (.pointer none) A.n A.tot true p.1 p.2 A.cl) 252 (0, 0))) (hf : Fr (· = g) w w') : Did g S { A with br := some p } w w' := by
  have hc := (state_nil hA).1
  refine ⟨S, ⟨h.sg, fun j hj => Nat.lt_of_lt_of_le (h.lt j hj) hf.size, _, _, hg, fun hs => ?_⟩, Gro.refl _ _, hf.mono (fun j _ hj => by rw [hj]; exact h.sg)⟩
  have := (state_nil hs).2
  simp at this
theorem has_key {w : World} {S : Nat → Prop} {obs : List (ByteArray × ByteArray)} {m : Nat} {D : DataW Nat} {B : Nat → Nat} {Dv : Nat → Value} (h : OM w S obs m D B Dv) {s : ByteArray} {i : Nat} (hi : i < obs.length) (hs : obs[i].1 = s) : D.atKey (.string s.data.toList) .nil = .held (B i) ∧ has D (.string s.data.toList) = true := by
  have h1 := h.key i hi
  rw [hs] at h1
  refine ⟨h1, ?_⟩
  cases hh : has D (.string s.data.toList) with
  | true => rfl
  | false => rw [atKey_of_not_has hh] at h1; cases h1
theorem hasnt_key {w : World} {S : Nat → Prop} {obs : List (ByteArray × ByteArray)} {m : Nat} {D : DataW Nat} {B : Nat → Nat} {Dv : Nat → Value} (h : OM w S obs m D B Dv) {s : ByteArray} (hs : s ∉ obs.map (·.1)) : has D (.string s.data.toList) = false := by
  cases hh : has D (.string s.data.toList) with
  | false => rfl
  | true =>
    have h1 := h.keys.mem_iff.1 (has_mem hh)
    obtain ⟨o, ho, he⟩ := List.mem_map.1 h1
    exact absurd (List.mem_map.2 ⟨o, ho, by_inj he⟩) hs
/-- Begin's answer where the state is refused -/
theorem dbegin_state (g : Nat) (s : ByteArray) (l : List (Int × Int)) (w : World) (hne : l ≠ []) (H : Calls Tryz.prog 148 #[.pointer (some ⟨g, 0, none⟩)] w fun e w' => ∃ v, e = .returned v ∧ ErrAt w' v l ∧ Below w.heap.size w w') :
    Calls Tryz.prog 101 #[.pointer (some ⟨g, 0, none⟩), .string s] w fun e w' => ∃ v, e = .returned v ∧ ErrAt w' v l ∧ Below w.heap.size w w' := by
  have H' : Hid _ := H
  clear H
  go_enter Tryz.func101, Tryz.ntmps101
  go_wp2_with fail
  refine Calls.mono H'.out ?_
  rintro e w1 ⟨v, rfl, hE, hb⟩
  cases l with
  | nil => exact absurd rfl hne
  | cons p r =>
    have HE : Hid _ := hE
    have HB : Hid _ := hb
    obtain ⟨g1, u, rfl, _⟩ := hE
    clear hb
    go_wp2
    go_ret
    exact ⟨_, rfl, HE.out, HB.out⟩
/-- Begin where it breaks off -/
theorem dbegin_name (g n : Nat) (s : ByteArray) (w : World) (Q : Value → World → Prop) (c8 : w.cell? ⟨g, 8, none⟩ = some (.bool false)) (c11 : w.cell? ⟨g, 11, none⟩ = some (.bool false)) (c6 : w.cell? ⟨g, 6, none⟩ = some (.int .i64 n)) (hs : s.size < 1 ∨ 255 < s.size)
    (H : Calls Tryz.prog 149 #[.pointer (some ⟨g, 0, none⟩), .int .i64 2, .int .i64 n] w fun e w' => ∃ v, e = .returned v ∧ Q v w') :
    Calls Tryz.prog 101 #[.pointer (some ⟨g, 0, none⟩), .string s] w fun e w' => ∃ v, e = .returned v ∧ Q v w' := by
  have h23 : Hid _ := state_ok g w c8 c11
  have H' : Hid _ := H
  clear H
  rcases hs with hs | hs
  · have s1 : (s.size : Int) < 1 := by omega
    go_enter Tryz.func101, Tryz.ntmps101
    go_wp2_with (go_at_call 148; refine Calls.mono h23.out ?_; rintro e w' ⟨rfl, rfl⟩)
    refine Calls.mono H'.out ?_
    rintro e w1 ⟨v, rfl, hQ⟩
    go_wp2
    go_ret
    exact ⟨_, rfl, hQ⟩
  · have s1 : ¬ ((s.size : Int) < 1) := by omega
    have s2 : (s.size : Int) > 255 := by omega
    go_enter Tryz.func101, Tryz.ntmps101
    go_wp2_with (go_at_call 148; refine Calls.mono h23.out ?_; rintro e w' ⟨rfl, rfl⟩)
    refine Calls.mono H'.out ?_
    rintro e w1 ⟨v, rfl, hQ⟩
    go_wp2
    go_ret
    exact ⟨_, rfl, hQ⟩
theorem dbegin_dup (g n m b i : Nat) (dv : Value) (D : DataW Nat) (s : ByteArray) (w : World) (Q : Value → World → Prop) (c8 : w.cell? ⟨g, 8, none⟩ = some (.bool false)) (c11 : w.cell? ⟨g, 11, none⟩ = some (.bool false)) (c4 : w.cell? ⟨g, 4, none⟩ = some (.map (some m))) (hs1 : 1 ≤ s.size) (hs2 : s.size ≤ 255)
    (hm : w.ownsMap Tryz.prog 9 pE m n D) (hk : D.atKey (.string s.data.toList) .nil = .held b) (hh : has D (.string s.data.toList) = true) (hb : w.heap[b]? = some (.cells #[.int .i64 i, dv] 261 (0, 0)))
    (H : Calls Tryz.prog 149 #[.pointer (some ⟨g, 0, none⟩), .int .i64 3, .int .i64 i] w fun e w' => ∃ v, e = .returned v ∧ Q v w') :
    Calls Tryz.prog 101 #[.pointer (some ⟨g, 0, none⟩), .string s] w fun e w' => ∃ v, e = .returned v ∧ Q v w' := by
  have h23 : Hid _ := state_ok g w c8 c11
  have H' : Hid _ := H
  have hkey : keyOf Tryz.prog 9 (.string s) = some (.string s.data.toList) := Go.WideMaps.keyOf_string_mk Tryz.underlying9 (by unfold maxLen; omega)
  have hlk : (Instr.lookup 247 (.map (some m)) (.string s) true).run Tryz.prog w = .ok (.tuple #[.pointer (some ⟨b, 0, none⟩), .bool true]) w := by
    obtain ⟨v, ps, hrun, hv⟩ := hm.look_ok law9 Tryz.underlying247 (zero61 w) (zd := .nil) (zp := []) rfl hkey
    rw [hh] at hrun
    rw [hk] at hv
    rw [pE_held hv] at hrun
    exact hrun
  have c0 : w.cell? ⟨b, 0, none⟩ = some (.int .i64 i) := cell_of_row _ _ _ _ 261 _ hb
  have s1 : ¬ ((s.size : Int) < 1) := by omega
  have s2 : ¬ ((s.size : Int) > 255) := by omega
  clear H hm hk hh hkey hb
  go_enter Tryz.func101, Tryz.ntmps101
  go_wp2_with (go_at_call 148; refine Calls.mono h23.out ?_; rintro e w' ⟨rfl, rfl⟩)
  refine Calls.mono H'.out ?_
  rintro e w1 ⟨v, rfl, hQ⟩
  go_wp2
  go_ret
  exact ⟨_, rfl, hQ⟩
theorem dbegin_full (g m : Nat) (D : DataW Nat) (s : ByteArray) (w : World) (Q : Value → World → Prop) (c8 : w.cell? ⟨g, 8, none⟩ = some (.bool false)) (c11 : w.cell? ⟨g, 11, none⟩ = some (.bool false)) (c4 : w.cell? ⟨g, 4, none⟩ = some (.map (some m))) (c6 : w.cell? ⟨g, 6, none⟩ = some (.int .i64 16)) (hs1 : 1 ≤ s.size) (hs2 : s.size ≤ 255)
    (hm : w.ownsMap Tryz.prog 9 pE m 16 D) (hh : has D (.string s.data.toList) = false)
    (H : Calls Tryz.prog 149 #[.pointer (some ⟨g, 0, none⟩), .int .i64 4, .int .i64 16] w fun e w' => ∃ v, e = .returned v ∧ Q v w') :
    Calls Tryz.prog 101 #[.pointer (some ⟨g, 0, none⟩), .string s] w fun e w' => ∃ v, e = .returned v ∧ Q v w' := by
  have h23 : Hid _ := state_ok g w c8 c11
  have H' : Hid _ := H
  have hkey : keyOf Tryz.prog 9 (.string s) = some (.string s.data.toList) := Go.WideMaps.keyOf_string_mk Tryz.underlying9 (by unfold maxLen; omega)
  obtain ⟨z, hzr, hlk⟩ : ∃ z : Value, True ∧ (Instr.lookup 247 (.map (some m)) (.string s) true).run Tryz.prog w = .ok (.tuple #[z, .bool false]) w := by
    obtain ⟨v, ps, hrun, hv⟩ := hm.look_ok law9 Tryz.underlying247 (zero61 w) (zd := .nil) (zp := []) rfl hkey
    rw [hh] at hrun
    exact ⟨v, trivial, hrun⟩
  have s1 : ¬ ((s.size : Int) < 1) := by omega
  have s2 : ¬ ((s.size : Int) > 255) := by omega
  clear H hm hh hkey hzr
  go_enter Tryz.func101, Tryz.ntmps101
  go_wp2_with (go_at_call 148; refine Calls.mono h23.out ?_; rintro e w' ⟨rfl, rfl⟩)
  refine Calls.mono H'.out ?_
  rintro e w1 ⟨v, rfl, hQ⟩
  go_wp2
  go_ret
  exact ⟨_, rfl, hQ⟩
end Go.Proofs.YtadinjaocnlglaaGreatDoor
namespace Go.Proofs.YtadinjaocnlglaaGreatDoor
open Go.RowKit Go.Maps
set_option maxRecDepth 100000
set_option maxHeartbeats 1000000
/-- one object more -/
theorem OM.more {w w' : World} {S : Nat → Prop} {obs : List (ByteArray × ByteArray)} {m ob : Nat} {D : DataW Nat} {B : Nat → Nat} {Dv : Nat → Value} (h : OM w S obs m D B Dv) (hlt : ∀ j, S j → j < w.heap.size) (s : ByteArray) (hno : s ∉ obs.map (·.1)) (hob : w.heap.size ≤ ob)
    (hm : w'.ownsMap Tryz.prog 9 pE m (obs.length + 1) (D.put (.string s.data.toList) (.held ob))) (hc : w'.heap[ob]? = some (.cells #[.int .i64 obs.length, .slice none 0 0] 261 (0, 0))) (hk : ∀ i, i < obs.length → w'.heap[B i]? = w.heap[B i]?) (hk2 : ∀ i, i < obs.length → ∀ q, (Dv i).ownBlock = some q → w'.heap[q]? = w.heap[q]?) :
    OM w' (fun j => S j ∨ j = ob) (obs ++ [(s, ⟨#[]⟩)]) m (D.put (.string s.data.toList) (.held ob)) (fun i => if i < obs.length then B i else ob) (fun i => if i < obs.length then Dv i else .slice none 0 0) := by
  have hD : IsMap D := h.map.isMap
  have hnk : s.data.toList ∉ strKeys D := fun hh => by
    obtain ⟨o, ho, he⟩ := List.mem_map.1 (h.keys.mem_iff.1 hh)
    exact hno (List.mem_map.2 ⟨o, ho, by_inj he⟩)
  have hlen : (obs ++ [(s, (⟨#[]⟩ : ByteArray))]).length = obs.length + 1 := by simp
  have hget : ∀ i (hi : i < obs.length) (hi' : i < (obs ++ [(s, (⟨#[]⟩ : ByteArray))]).length), (obs ++ [(s, (⟨#[]⟩ : ByteArray))])[i] = obs[i] := fun i hi _ => List.getElem_append_left hi
  have hgetl : ∀ i (hi : ¬ i < obs.length) (hi' : i < (obs ++ [(s, (⟨#[]⟩ : ByteArray))]).length), (obs ++ [(s, (⟨#[]⟩ : ByteArray))])[i] = (s, ⟨#[]⟩) := fun i hi hi' => by
    have : i = obs.length := by omega
    subst this; simp
  refine ⟨.inl h.sm, by rw [hlen]; exact hm, ?_, ?_, ?_, ?_, ?_, ?_, ?_, ?_⟩
  · refine (put_perm hD s.data.toList (.held ob) hnk).trans ?_
    rw [List.map_append]
    exact (h.keys.cons _).trans (List.perm_append_singleton _ _).symm
  · intro i hi
    by_cases hlt' : i < obs.length
    · rw [hget i hlt' hi, if_pos hlt', atKey_put_other (by intro e; exact hnk (h.keys.mem_iff.2 (List.mem_map.2 ⟨obs[i], List.getElem_mem hlt', Lit.string.inj e⟩)))]
      exact h.key i hlt'
    · rw [hgetl i hlt' hi, if_neg hlt']
      exact atKey_put_same hD (show WideAt.IsKeyLit (.string _) from trivial) _ _
  · intro i hi
    by_cases hlt' : i < obs.length
    · rw [if_pos hlt', if_pos hlt', hk i hlt']; exact h.cell i hlt'
    · rw [if_neg hlt', if_neg hlt']
      have : i = obs.length := by omega
      subst this; exact hc
  · intro i hi
    by_cases hlt' : i < obs.length
    · simp only [hget i hlt' hi, if_pos hlt']; exact own_kept (h.row i hlt') (hk2 i hlt')
    · simp only [hgetl i hlt' hi, if_neg hlt']
      exact ⟨rfl, .inl ⟨rfl, rfl⟩⟩
  · intro i hi
    by_cases hlt' : i < obs.length
    · rw [if_pos hlt']; exact .inl (h.sB i hlt')
    · rw [if_neg hlt']; exact .inr rfl
  · intro i hi q hq
    by_cases hlt' : i < obs.length
    · rw [if_pos hlt'] at hq; exact .inl (h.sD i hlt' q hq)
    · rw [if_neg hlt'] at hq; simp [Value.ownBlock] at hq
  · intro i j hi hj hne
    by_cases h1 : i < obs.length
    · by_cases h2 : j < obs.length
      · rw [if_pos h1, if_pos h2]; exact h.injB i j h1 h2 hne
      · rw [if_pos h1, if_neg h2]; have := hlt _ (h.sB i h1); omega
    · by_cases h2 : j < obs.length
      · rw [if_neg h1, if_pos h2]; have := hlt _ (h.sB j h2); omega
      · omega
  · intro i j q hi hj hne hq
    by_cases h1 : i < obs.length
    · by_cases h2 : j < obs.length
      · rw [if_pos h1] at hq; rw [if_pos h2]; exact h.injD i j q h1 h2 hne hq
      · rw [if_neg h2]; simp [Value.ownBlock]
    · rw [if_neg h1] at hq; simp [Value.ownBlock] at hq
theorem mem_ne {α : Type} {l : List α} (h : l ≠ []) : ∃ a r, l = a :: r := by
  cases l with
  | nil => exact absurd rfl h
  | cons a r => exact ⟨a, r, rfl⟩
theorem state_cells {A : AW} {g : Nat} {obj last : Value} {w : World} (hA : A.state = []) (hg : w.heap[g]? = some (.cells (dZ A.K A.M A.C A.V obj last A.n A.tot A.br.isSome A.fst.1 A.fst.2 A.cl) 252 (0, 0))) : w.heap[g]? = some (.cells (dC A.K A.M A.C A.V obj last A.n A.tot) 252 (0, 0)) := by
  obtain ⟨h1, h2⟩ := state_nil hA
  rw [hg, dC_Z]
  simp [AW.fst, h1, h2]
theorem state_any (g : Nat) (S : Nat → Prop) (A : AW) (w : World) (hI : DI g S A w) (hne : A.state ≠ []) : Calls Tryz.prog 148 #[.pointer (some ⟨g, 0, none⟩)] w fun e w' => ∃ v, e = .returned v ∧ ErrAt w' v A.state ∧ Below w.heap.size w w' := by
  obtain ⟨obj, last, hg, _⟩ := hI.cells
  unfold AW.state at hne ⊢
  cases hc : A.cl with
  | true =>
    rw [hc] at hg
    simp only [if_true]
    exact state_cl g _ _ _ _ A.n A.tot obj last _ _ _ w hg
  | false =>
    cases hb : A.br with
    | none => simp [hc, hb] at hne
    | some p =>
      rw [hc] at hg
      have e1 : A.fst = p := by simp [AW.fst, hb]
      rw [hb, e1] at hg
      simp only [Bool.false_eq_true, if_false]
      exact state_br g _ _ _ _ A.n A.tot obj last p.1 p.2 w hg
theorem dbegin_any (g : Nat) (S : Nat → Prop) (A : AW) (s : ByteArray) (w : World) (hI : DI g S A w) (hA : A.ok) :
    Calls Tryz.prog 101 #[.pointer (some ⟨g, 0, none⟩), .string s] w fun e w' => ∃ v, e = .returned v ∧ (ErrAt w' v (A.bgE s) ∧ Did g S (A.bgA s) w w') := by
  by_cases hs : A.state = []
  · obtain ⟨obj, last, hg0, hO⟩ := hI.cells
    obtain ⟨m, D, B, Dv, rfl, hlast, hM⟩ := hO hs
    have hg := state_cells hs hg0
    have c4 : w.cell? ⟨g, 4, none⟩ = some (.map (some m)) := cell_of_row _ _ _ _ 252 _ hg
    have c6 : w.cell? ⟨g, 6, none⟩ = some (.int .i64 A.n) := cell_of_row _ _ _ _ 252 _ hg
    have c8 : w.cell? ⟨g, 8, none⟩ = some (.bool false) := cell_of_row _ _ _ _ 252 _ hg
    have c11 : w.cell? ⟨g, 11, none⟩ = some (.bool false) := cell_of_row _ _ _ _ 252 _ hg
    have hcl := (state_nil hs).1
    have BR : ∀ k i : Int, A.bgE s = [(k, i)] → A.bgA s = { A with br := some (k, i) } → Calls Tryz.prog 149 #[.pointer (some ⟨g, 0, none⟩), .int .i64 k, .int .i64 i] w fun e w' => ∃ v, e = .returned v ∧ (ErrAt w' v (A.bgE s) ∧ Did g S (A.bgA s) w w') := fun k i h1 h2 => by
      refine (breakOff_any k i g _ _ _ _ A.n A.tot _ last _ _ _ _ w hg0).mono ?_
      rintro e w' ⟨v, he, hE, hg', hf⟩
      rw [h1, h2]
      exact ⟨v, he, hE, Did.broke hI hs hg' hf⟩
    by_cases hn : s.size < 1 ∨ 255 < s.size
    · have e1 : A.bgE s = [(2, (A.n : Int))] := by unfold AW.bgE; rw [if_pos hs, if_pos hn]
      have e2 : A.bgA s = { A with br := some (2, (A.n : Int)) } := by unfold AW.bgA; rw [if_pos hs, e1]
      exact dbegin_name g A.n s w _ c8 c11 c6 hn (BR 2 A.n e1 e2)
    · have hs1 : 1 ≤ s.size := by omega
      have hs2 : s.size ≤ 255 := by omega
      cases hi : idxL s A.ob with
      | some i =>
        have e1 : A.bgE s = [(3, (i : Int))] := by unfold AW.bgE; rw [if_pos hs, if_neg hn, hi]
        have e2 : A.bgA s = { A with br := some (3, (i : Int)) } := by unfold AW.bgA; rw [if_pos hs, e1]
        obtain ⟨h1, h2, _⟩ := idxL_some hi
        have h3 : A.ob[i].1 = s := by rw [List.getElem?_eq_getElem h1] at h2; simpa using h2
        obtain ⟨k1, k2⟩ := has_key hM h1 h3
        exact dbegin_dup g _ m (B i) i (Dv i) D s w _ c8 c11 c4 hs1 hs2 hM.map k1 k2 (hM.cell i h1) (BR 3 i e1 e2)
      | none =>
        have hno := idxL_none hi
        have hh := hasnt_key hM hno
        by_cases h16 : A.n = 16
        · have e1 : A.bgE s = [(4, 16)] := by unfold AW.bgE; rw [if_pos hs, if_neg hn, hi]; simp [h16]
          have e2 : A.bgA s = { A with br := some (4, 16) } := by unfold AW.bgA; rw [if_pos hs, e1]
          have hmap := hM.map
          have hl : A.ob.length = 16 := h16
          rw [hl] at hmap
          rw [h16] at c6
          exact dbegin_full g m D s w _ c8 c11 c4 c6 hs1 hs2 hmap hh (BR 4 16 e1 e2)
        · have e1 : A.bgE s = [] := by unfold AW.bgE; rw [if_pos hs, if_neg hn, hi]; simp [h16]
          have e2 : A.bgA s = { A with ob := A.ob ++ [(s, ⟨#[]⟩)] } := by unfold AW.bgA; rw [if_pos hs, e1]
          have hn16 := hA.n16
          refine (dbegin_ok g m A.K A.M A.C A.V A.n A.tot last D s w hg hM.map hh hs1 hs2 (by omega)).mono ?_
          rintro e w' ⟨rfl, ob, b1, b2, b3, b4, b5, b6, b7⟩
          have hgm : g ≠ m := fun e => by obtain ⟨es, ck, h1, _⟩ := hM.map; rw [← e, hg] at h1; cases h1
          have hkeep : ∀ j, S j → j ≠ g → j ≠ m → w'.heap[j]? = w.heap[j]? := fun j hj h1 h2 => b6 j (hI.lt j hj) h1 h2
          have hBg : ∀ i, i < A.ob.length → B i ≠ g ∧ B i ≠ m := fun i hi' => by
            have hc := hM.cell i hi'
            exact ⟨fun e => by rw [e, hg] at hc; simp at hc, fun e => by obtain ⟨es, ck, h1, _⟩ := hM.map; rw [e, h1] at hc; cases hc⟩
          have hDg : ∀ i, (hi' : i < A.ob.length) → ∀ q, (Dv i).ownBlock = some q → q ≠ g ∧ q ≠ m := fun i hi' q hq => by
            obtain ⟨cur, hc⟩ := own_type (hM.row i hi') q hq
            exact ⟨fun e => by rw [e, hg] at hc; simp at hc, fun e => by obtain ⟨es, ck, h1, _⟩ := hM.map; rw [e, h1] at hc; cases hc⟩
          rw [e1, e2]
          refine ⟨_, rfl, rfl, fun j => S j ∨ j = ob, ⟨.inl hI.sg, ?_, ?_⟩, ?_, ?_⟩
          · intro j hj
            rcases hj with hj | rfl
            · have := hI.lt j hj; omega
            · exact (Array.getElem?_eq_some_iff.1 b2).1
          · refine ⟨.map (some m), .pointer (some ⟨ob, 0, none⟩), ?_, fun _ => ⟨m, _, _, _, rfl, ?_, OM.more hM hI.lt s hno b1 b4 b2 (fun i hi' => hkeep _ (hM.sB i hi') (hBg i hi').1 (hBg i hi').2) (fun i hi' q hq => hkeep _ (hM.sD i hi' q hq) (hDg i hi' q hq).1 (hDg i hi' q hq).2)⟩⟩
            · have hbr := (state_nil hs).2
              rw [b3, dC_Z]
              simp [AW.n, AW.tot, sumL, AW.fst, hcl, hbr]
              rfl
            · unfold lastV
              have h0 : (({ A with ob := A.ob ++ [(s, (⟨#[]⟩ : ByteArray))] } : AW).n) = A.ob.length + 1 := by simp [AW.n]
              rw [h0, if_neg (by omega)]
              simp
          · intro j hj
            rcases hj with hj | rfl
            · exact .inl hj
            · exact .inr b1
          · exact ⟨b5, fun j hj hn' => b6 j hj (fun e => hn' (by rw [e]; exact hI.sg)) (fun e => hn' (by rw [e]; exact hM.sm)), b7⟩
  · have e1 : A.bgE s = A.state := by unfold AW.bgE; rw [if_neg hs]
    have e2 : A.bgA s = A := by unfold AW.bgA; rw [if_neg hs]
    rw [e1, e2]
    refine (dbegin_state g s A.state w hs (state_any g S A w hI hs)).mono ?_
    rintro e w' ⟨v, he, hE, hb⟩
    exact ⟨v, he, hE, Did.same hI hb⟩
end Go.Proofs.YtadinjaocnlglaaGreatDoor
