/-
  What a Writer has after so many objects, and one object more.
  The walk of layout.readTold.
-/
import Derived.Test.YtadinjaocnlglaaGreatDoorZ19
import Derived.Test.YtadinjaocnlglaaGreatDoorZ10
namespace Go.Proofs.YtadinjaocnlglaaGreatDoor
open Go.RowKit Go.Maps
set_option maxRecDepth 100000
set_option maxHeartbeats 1000000
theorem by_inj {a b : ByteArray} (h : a.data.toList = b.data.toList) : a = b := ByteArray.ext (Array.toList_inj.1 h)
/-- the data of the object with that name -/
def datOf (F : Nat → Ob) (q : Nat) (s : List UInt8) : List UInt8 := match (List.range q).find? (fun i => (F i).1.data.toList == s) with | some i => (F i).2.data.toList | none => []
theorem datOf_at {q : Nat} {F : Nat → Ob} (h : Srt q F) (i : Nat) (hi : i < q) : datOf F q (F i).1.data.toList = (F i).2.data.toList := by
  unfold datOf
  cases e : (List.range q).find? (fun j => (F j).1.data.toList == (F i).1.data.toList) with
  | none =>
    have := List.find?_eq_none.1 e i (List.mem_range.2 hi)
    simp at this
  | some j =>
    have h1 := List.find?_some e
    have h2 := List.mem_range.1 (List.mem_of_find?_eq_some e)
    have h3 : (F j).1 = (F i).1 := by_inj (by simpa using h1)
    by_cases hne : j = i
    · subst hne; rfl
    · exact absurd h3 (h.ne j i h2 hi hne)
theorem datOf_len {q : Nat} {F : Nat → Ob} (h : Srt q F) (s : List UInt8) : (datOf F q s).length ≤ 12 := by
  unfold datOf
  split
  · rename_i i e
    have h2 := List.mem_range.1 (List.mem_of_find?_eq_some e)
    have := (h.sz i h2).2.2
    simpa using this
  · simp
theorem has_mem {D : DataW Nat} {s : List UInt8} (h : has D (.string s) = true) : s ∈ strKeys D := by
  cases D with
  | map es =>
    have h' : es.any (fun p => p.1.sameKey (.string s)) = true := h
    obtain ⟨p, hp, hk⟩ := List.any_eq_true.1 h'
    have := WideAt.sameKey_eq hk
    exact List.mem_map.2 ⟨p, hp, by rw [this]; rfl⟩
  | lit _ => cases h
  | nil => cases h
  | ptr _ => cases h
  | slice _ _ => cases h
  | agg _ => cases h
  | iface _ _ => cases h
  | held _ => cases h
theorem insert_perm (x : Lit × DataW Nat) : ∀ l : List (Lit × DataW Nat), (DataW.insert x l).Perm (x :: l)
  | [] => List.Perm.refl _
  | y :: r => by
    unfold DataW.insert
    split
    · exact List.Perm.refl _
    · exact ((insert_perm x r).cons y).trans (List.Perm.swap x y r)
theorem put_perm {D : DataW Nat} (hD : IsMap D) (s : List UInt8) (d : DataW Nat) (hno : s ∉ strKeys D) : (strKeys (D.put (.string s) d)).Perm (s :: strKeys D) := by
  obtain ⟨es, rfl⟩ := hD
  have e : es.filter (fun p => !p.1.sameKey (.string s)) = es := by
    apply List.filter_eq_self.2
    intro p hp
    cases h : p.1.sameKey (.string s) with
    | false => rfl
    | true =>
      have := WideAt.sameKey_eq h
      exact absurd (List.mem_map.2 ⟨p, hp, by rw [this]; rfl⟩) hno
  show ((DataW.insert (.string s, d) (es.filter fun p => !p.1.sameKey (.string s))).map fun p => strOf p.1).Perm (s :: es.map fun p => strOf p.1)
  rw [e]
  exact (insert_perm (.string s, d) es).map _
def tot (l : List Ob) : Nat := (l.map fun o => o.2.size).sum
def nms (l : List Ob) : List (List UInt8) := l.map fun o => o.1.data.toList
/-- what a Writer has after these objects -/
structure DInv (wb g m K M C V : Nat) (G : List UInt8 → List UInt8) (Dn : List Ob) (last : Value) (D : DataW Nat) (w : World) : Prop where
  wb : w.heap[wb]? = some (.cells (wC 0 g) 180 (0, 0))
  g : w.heap[g]? = some (.cells (dC K M C V (.map (some m)) last Dn.length (tot Dn)) 252 (0, 0))
  m : w.ownsMap Tryz.prog 9 pE m Dn.length D
  p : (strKeys D).Perm (nms Dn)
  o : Obs w D G
theorem own_base {w : World} {B B' n : Nat} {e : TypeId} {size : Nat} {v : Value} {xs : List Value} (h : w.ownsRow B e size v n xs) (hb : B' ≤ B) : w.ownsRow B' e size v n xs := by
  refine ⟨h.1, ?_⟩
  rcases h.2 with h2 | ⟨g, cap, cur, h1, h2, h3⟩
  · exact .inl h2
  · exact .inr ⟨g, cap, cur, h1, by omega, h3⟩
theorem own_move {w w' : World} {B n : Nat} {e : TypeId} {size : Nat} {v : Value} {xs : List Value} (h : w.ownsRow B e size v n xs) (hb : ∀ r cs, v.ownBlock = some r → w.heap[r]? = some (.cells cs e (0, 0)) → w'.heap[r]? = w.heap[r]?) : w'.ownsRow B e size v n xs := by
  refine ⟨h.1, ?_⟩
  rcases h.2 with h2 | ⟨g, cap, cur, h1, h2, h3, h4⟩
  · exact .inl h2
  · refine .inr ⟨g, cap, cur, h1, h2, ?_, h4⟩
    subst h1
    rw [hb g cur rfl h3]; exact h3
theorem round_end (G : List UInt8 → List UInt8) (wb g m K M C V : Nat) (Dn : List Ob) (o : Ob) (last : Value) (D : DataW Nat) (w w1 w2 w3 : World) (a b : ByteArray) (hab : a.data.toList ++ b.data.toList = o.2.data.toList)
    (hdat : G o.1.data.toList = o.2.data.toList) (hnew : o.1.data.toList ∉ strKeys D) (I : DInv wb g m K M C V G Dn last D w)
    (ob : Nat) (b1 : w.heap.size ≤ ob)
    (b5 : w1.ownsMap Tryz.prog 9 pE m (Dn.length + 1) (D.put (.string o.1.data.toList) (.held ob))) (b6 : w.heap.size ≤ w1.heap.size) (b7 : ∀ j, j < w.heap.size → j ≠ g → j ≠ m → j ≠ wb → w1.heap[j]? = w.heap[j]?) (b8 : Calm w w1)
    (dv1 : Value) (c5 : w2.ownsRow w.heap.size 5 1 dv1 (0 + a.size) ([] ++ Lib.strCells a)) (c6 : w1.heap.size ≤ w2.heap.size) (c7 : ∀ j, j < w1.heap.size → j ≠ g → j ≠ ob → j ≠ wb → some j ≠ (Value.slice none 0 0).ownBlock → w2.heap[j]? = w1.heap[j]?) (c8 : Calm w1 w2)
    (dv2 : Value) (d2 : w3.heap[wb]? = some (.cells (wC 0 g) 180 (0, 0))) (d3 : w3.heap[g]? = some (.cells (dC K M C V (.map (some m)) (.pointer (some ⟨ob, 0, none⟩)) (Dn.length + 1) (tot Dn + a.size + b.size)) 252 (0, 0))) (d4 : w3.heap[ob]? = some (.cells #[.int .i64 Dn.length, dv2] 261 (0, 0)))
    (d5 : w3.ownsRow w.heap.size 5 1 dv2 (0 + a.size + b.size) ([] ++ Lib.strCells a ++ Lib.strCells b)) (d6 : w2.heap.size ≤ w3.heap.size) (d7 : ∀ j, j < w2.heap.size → j ≠ g → j ≠ ob → j ≠ wb → some j ≠ dv1.ownBlock → w3.heap[j]? = w2.heap[j]?) (d8 : Calm w2 w3) :
    DInv wb g m K M C V G (Dn ++ [o]) (.pointer (some ⟨ob, 0, none⟩)) (D.put (.string o.1.data.toList) (.held ob)) w3 ∧ (∀ j, j < w.heap.size → j ≠ g → j ≠ m → j ≠ wb → w3.heap[j]? = w.heap[j]?) ∧ w.heap.size ≤ w3.heap.size ∧ Calm w w3 := by
  have hsz : a.size + b.size = o.2.size := by
    have := congrArg List.length hab
    rw [List.length_append, dl, dl, dl] at this; exact this
  have hfr : ∀ j, j < w.heap.size → j ≠ g → j ≠ m → j ≠ wb → w3.heap[j]? = w.heap[j]? := fun j hj h1 h2 h3 => by
    rw [d7 j (by omega) h1 (by omega) h3 (fun e => by have := own_ge c5 j e.symm; omega), c7 j (by omega) h1 (by omega) h3 (by simp [Value.ownBlock])]
    exact b7 j hj h1 h2 h3
  have hml := I.m.lt
  obtain ⟨es, ck, hm1, hm2⟩ := b5
  obtain ⟨es0, ck0, hm0, _⟩ := I.m
  have hmg : m ≠ g := fun e => by rw [e, I.g] at hm0; cases hm0
  have hmw : m ≠ wb := fun e => by rw [e, I.wb] at hm0; cases hm0
  have hm3 : w3.heap[m]? = some (.map es ck) := by
    rw [d7 m (by omega) hmg (by omega) hmw (fun e => by have := own_ge c5 m e.symm; omega), c7 m (by omega) hmg (by omega) hmw (by simp [Value.ownBlock])]
    exact hm1
  refine ⟨⟨d2, ?_, ⟨es, ck, hm3, by simpa using hm2⟩, ?_, ?_⟩, hfr, by omega, (b8.trans c8).trans d8⟩
  · have e1 : (Dn ++ [o]).length = Dn.length + 1 := by simp
    have e2 : tot (Dn ++ [o]) = tot Dn + a.size + b.size := by simp [tot, Nat.add_assoc, hsz]
    rw [e1, e2]; exact d3
  · have h1 := put_perm I.m.isMap o.1.data.toList (.held ob) hnew
    refine h1.trans ?_
    have h2 : nms (Dn ++ [o]) = nms Dn ++ [o.1.data.toList] := by simp [nms]
    rw [h2]
    exact (I.p.cons _).trans (List.perm_append_singleton _ _).symm
  · intro s hs
    have hs' := (put_perm I.m.isMap o.1.data.toList (.held ob) hnew).mem_iff.1 hs
    by_cases e : s = o.1.data.toList
    · subst e
      refine ⟨ob, _, dv2, atKey_put_same I.m.isMap (show WideAt.IsKeyLit (.string _) from trivial) _ _, d4, ?_⟩
      rw [hdat]
      have h5 := own_base d5 (Nat.zero_le _)
      have e1 : 0 + a.size + b.size = o.2.data.toList.length := by rw [dl]; omega
      have e2 : [] ++ Lib.strCells a ++ Lib.strCells b = Lib.byteCells o.2.data.toList := by rw [Lib.strCells_eq, Lib.strCells_eq, List.nil_append, ← Lib.byteCells_append, hab]
      rw [e1, e2] at h5
      exact h5
    · have hsD : s ∈ strKeys D := by
        rcases List.mem_cons.1 hs' with h | h
        · exact absurd h e
        · exact h
      obtain ⟨ob', num, v, h1, h2, h3⟩ := I.o s hsD
      have hl2 := (Array.getElem?_eq_some_iff.1 h2).1
      refine ⟨ob', num, v, ?_, ?_, ?_⟩
      · rw [atKey_put_other (by intro h; cases h; exact e rfl)]; exact h1
      · rw [hfr ob' hl2 (fun e => by rw [e, I.g] at h2; simp at h2) (fun e => by rw [e, hm0] at h2; cases h2) (fun e => by rw [e, I.wb] at h2; simp at h2)]; exact h2
      · refine own_move h3 (fun r cs hr hc => hfr r (Array.getElem?_eq_some_iff.1 hc).1 (fun e => by rw [e, I.g] at hc; simp at hc) (fun e => by rw [e, hm0] at hc; cases hc) (fun e => by rw [e, I.wb] at hc; simp at hc))
end Go.Proofs.YtadinjaocnlglaaGreatDoor
namespace Go.Proofs.YtadinjaocnlglaaGreatDoor
open Go.RowKit
set_option maxRecDepth 100000
set_option maxHeartbeats 4000000
/-- a Volume's cells -/
def volC (root lst : ByteArray) (K M C V : Nat) (vE : Value) (lv : ByteArray) (num first : Nat) (vB : Value) : Array Value :=
  #[.string root, .string lst, .int .i64 K, .int .i64 M, .int .i64 C, .int .i64 V, vE, .string lv, .int .i64 num, .int .i64 first, vB]
theorem list_V (s : RS) : s.list.V ≤ 16 := num_hi _ 1 16
theorem rtold (r : Nat) (s : RS) (w : World) (h : RI r s w) : Calls Tryz.prog 246 #[.pointer (some ⟨r, 0, none⟩)] w fun e w' => ∃ g vE, e = .returned (.pointer (some ⟨g, 0, none⟩)) ∧ w.heap.size ≤ g ∧ w'.heap[g]? = some (.cells (volC s.told.root s.told.lst s.told.L.K s.told.L.M s.told.L.C s.told.L.V vE s.told.lv s.told.num 0 (.slice none 0 0)) 319 (0, 0)) ∧ w'.ownsRow w.heap.size 70 2 vE s.told.L.es.length (enV s.told.L.es) ∧ RDid r s.told.st w w' := by
  have hrl : r < w.heap.size := (Array.getElem?_eq_some_iff.1 h.row).1
  obtain ⟨s0, hs0⟩ : ∃ x, s.word ⟨#[86, 79, 76, 49]⟩ = x := ⟨_, rfl⟩
  obtain ⟨s1, hs1⟩ : ∃ x, (s0.bytes 32).1 = x := ⟨_, rfl⟩
  obtain ⟨root, hroot⟩ : ∃ x, (s0.bytes 32).2 = x := ⟨_, rfl⟩
  obtain ⟨L, hL⟩ : ∃ x, s1.list = x := ⟨_, rfl⟩
  obtain ⟨s2, hs2⟩ : ∃ x, (L.st.num 0 ((L.V : Int) - 1)).1 = x := ⟨_, rfl⟩
  obtain ⟨num, hnum⟩ : ∃ x, (L.st.num 0 ((L.V : Int) - 1)).2 = x := ⟨_, rfl⟩
  have hLl : L.es.length ≤ 16 := by rw [← hL]; exact list_len s1
  have hLs : lenE L.es ≤ 4096 := by rw [← hL]; exact list_sum s1
  obtain ⟨lst, hlst⟩ : ∃ x, L.st.text.extract s1.next L.st.next = x := ⟨_, rfl⟩
  have H0 : Hid (∀ X : World, RI r s X → Calls Tryz.prog 287 #[.pointer (some ⟨r, 0, none⟩), .string ⟨#[86, 79, 76, 49]⟩] X fun e w' => e = .returned (.tuple #[]) ∧ RDid r s0 X w') := fun X hX => by rw [← hs0]; exact rword r s _ X hX (by decide)
  have H1 : Hid (∀ X : World, RI r s0 X → Calls Tryz.prog 249 #[.pointer (some ⟨r, 0, none⟩), .int .i64 32] X fun e w' => e = .returned (.string root) ∧ RDid r s1 X w') := fun X hX => by rw [← hs1, ← hroot]; exact rbytes r s0 32 X hX (by decide)
  have H2 : Hid (∀ X : World, RI r s1 X → Calls Tryz.prog 288 #[.pointer (some ⟨r, 0, none⟩)] X fun e w' => ∃ v, e = .returned (.tuple #[.agg #[.int .i64 L.K, .int .i64 L.M, .int .i64 L.C, .int .i64 L.V], v]) ∧ w'.ownsRow X.heap.size 70 2 v L.es.length (enV L.es) ∧ RDid r L.st X w') := fun X hX => by rw [← hL]; exact rlistR r s1 X hX
  have H3 : Hid (∀ X : World, RI r L.st X → Calls Tryz.prog 289 #[.pointer (some ⟨r, 0, none⟩), .int .i64 0, .int .i64 ((L.V : Int) - 1)] X fun e w' => e = .returned (.int .i64 num) ∧ RDid r s2 X w') := fun X hX => by rw [← hs2, ← hnum]; exact rnum r L.st 0 _ X hX
  have HV : Hid (L.V ≤ 16) := by show L.V ≤ 16; rw [← hL]; exact list_V s1
  have hadv : s1.next ≤ L.st.next := by rw [← hL]; exact (list_adv s1).2
  have H4 : Hid (∀ X : World, RI r L.st X → Calls Tryz.prog 247 #[.pointer (some ⟨r, 0, none⟩), .int .i64 s1.next] X fun e w' => e = .returned (.string lst) ∧ Below X.heap.size X w') := fun X hX => by rw [← hlst]; exact rsince r L.st s1.next X hX hadv
  have hLok : s2.wrong = false → 1 ≤ L.K ∧ L.K + L.M ≤ 255 ∧ 1 ≤ L.C ∧ L.C ≤ 64 := fun hw => by
    have h1 := (num_ok (show (L.st.num 0 ((L.V : Int) - 1)).1.wrong = false by rw [hs2]; exact hw)).1
    rw [← hL] at h1 ⊢
    have h2 := list_ok h1
    exact ⟨h2.2.1, h2.2.2.1, h2.2.2.2.1, h2.2.2.2.2.1⟩
  obtain ⟨g, hg⟩ : ∃ g, w.heap.size = g := ⟨_, rfl⟩
  have HG : Hid _ := hg
  obtain ⟨W, hW⟩ : ∃ W, w.alloc (.cells (volC ⟨#[]⟩ ⟨#[]⟩ 0 0 0 0 (.slice none 0 0) ⟨#[]⟩ 0 0 (.slice none 0 0)) 319) = W := ⟨_, rfl⟩
  have hW' : w.alloc (.cells #[.string ⟨#[]⟩, .string ⟨#[]⟩, .int .i64 0, .int .i64 0, .int .i64 0, .int .i64 0, .slice none 0 0, .string ⟨#[]⟩, .int .i64 0, .int .i64 0, .slice none 0 0] 319) = W := hW
  have hgr : g ≠ r := by omega
  have HIW : Hid (RI r s W) := by show RI r s W; rw [← hW]; exact h.low ((Below.refl _ _).alloc (Nat.le_refl _) _)
  have HFW : Hid (Fr (fun j => j = r) w W) := by show Fr _ w W; rw [← hW]; exact (Fr.refl _ w).alloc _
  have HROW : Hid (W.heap[g]? = some (.cells #[.string ⟨#[]⟩, .string ⟨#[]⟩, .int .i64 0, .int .i64 0, .int .i64 0, .int .i64 0, .slice none 0 0, .string ⟨#[]⟩, .int .i64 0, .int .i64 0, .slice none 0 0] 319 (0, 0))) := by show _ = _; rw [← hW', ← hg]; exact heap_alloc_new _ _
  have HSTEP : Hid (∀ (X Y : World) (cs : Array Value) (st : RS), X.heap[g]? = some (.cells cs 319 (0, 0)) → Fr (fun j => j = r) w X → RDid r st X Y → Y.heap[g]? = some (.cells cs 319 (0, 0)) ∧ Fr (fun j => j = r) w Y) := fun X Y cs st h1 h2 h3 => ⟨by rw [h3.2.old g (Array.getElem?_eq_some_iff.1 h1).1 hgr]; exact h1, h2.trans' h3.2⟩
  have HSET : Hid (∀ (X : World) (cs : Array Value) (st : RS) (k : Nat) (v : Value), X.heap[g]? = some (.cells cs 319 (0, 0)) → Fr (fun j => j = r) w X → RI r st X → (X.setCell ⟨g, k, none⟩ v).heap[g]? = some (.cells (cs.setIfInBounds k v) 319 (0, 0)) ∧ Fr (fun j => j = r) w (X.setCell ⟨g, k, none⟩ v) ∧ RI r st (X.setCell ⟨g, k, none⟩ v)) := fun X cs st k v h1 h2 h3 => ⟨set_heap _ _ _ _ _ _ _ h1, h2.set (g := g) (.inr (by rw [HG.out]; exact Nat.le_refl _)) _ _, ⟨by rw [set_other _ _ _ _ _ hgr.symm]; exact h3.row, h3.fn, h3.nt, h3.small⟩⟩
  have HOWN : Hid (∀ (X Y : World) (B n : Nat) (v : Value) (xs : List Value) (st st' : RS), X.ownsRow B 70 2 v n xs → RI r st X → RDid r st' X Y → Y.ownsRow B 70 2 v n xs) := fun X Y B n v xs st st' ho hi hd => own_kept ho (fun q hq => hd.2.old q (own_lt ho q hq) (fun e => by
    obtain ⟨cur, hc⟩ := own_type ho q hq
    have h2 := hi.row
    rw [← e, hc] at h2; simp at h2))
  have HOWS : Hid (∀ (X : World) (B n k : Nat) (v u : Value) (xs : List Value) (cs : Array Value), X.ownsRow B 70 2 v n xs → X.heap[g]? = some (.cells cs 319 (0, 0)) → (X.setCell ⟨g, k, none⟩ u).ownsRow B 70 2 v n xs) := fun X B n k v u xs cs ho hr => own_kept ho (fun q hq => set_other _ _ _ _ _ (fun e => by
    obtain ⟨cur, hc⟩ := own_type ho q hq
    rw [e, hr] at hc; simp at hc))
  have HTOLD : Hid (s.told = if s2.wrong then ⟨s2, root, lst, L, num, ⟨#[]⟩⟩ else ⟨((if 512 < L.cnt then s2.refuse else s2).bytes (L.cnt * 32)).1, root, lst, L, num, ((if 512 < L.cnt then s2.refuse else s2).bytes (L.cnt * 32)).2⟩) := by
    show _ = _
    unfold RS.told
    simp only [hs0, hs1, hroot, hL, hs2, hnum, hlst]
  have HCB : Hid (s2.wrong = false → L.cnt ≤ 10000000) := fun hw => by
    obtain ⟨k0, k1, k2, k3⟩ := hLok hw
    have h1 : nst (L.K * L.C) (lenE L.es) ≤ lenE L.es := nst_len _ _ (Nat.mul_pos k0 k2)
    exact Nat.le_trans (Nat.mul_le_mul (Nat.le_trans h1 hLs) k1) (by omega)
  have HLOK : Hid _ := hLok
  clear h hs0 hs1 hroot hL hs2 hnum hlst hLok hW
  go_enter Tryz.func246, Tryz.ntmps246
  go_wp2_with fail
  try rw [hW']
  try rw [hg]
  clear hW' hg
  refine Calls.mono (H0.out _ HIW.out) ?_
  rintro e w0 ⟨rfl, hD⟩
  obtain ⟨hr, hf⟩ := HSTEP.out _ _ _ _ HROW.out HFW.out hD
  have HR0 : Hid _ := hr
  have HF0 : Hid _ := hf
  have HI0 : Hid (RI r s0 w0) := hD.1
  clear hr hf hD
  go_wp2_with fail
  refine Calls.mono (H1.out _ HI0.out) ?_
  rintro e w1 ⟨rfl, hD⟩
  obtain ⟨hr, hf⟩ := HSTEP.out _ _ _ _ HR0.out HF0.out hD
  have c0 : w1.cell? ⟨g, 0, none⟩ = some (.string ⟨#[]⟩) := cell_of_row _ _ _ _ 319 _ hr
  have f0 := frozen_of_row w1 g 0 _ 319 hr
  obtain ⟨hr', hf', hi'⟩ := HSET.out w1 _ s1 0 (.string root) hr hf hD.1
  obtain ⟨X1, hX1⟩ : ∃ X, w1.setCell ⟨g, 0, none⟩ (.string root) = X := ⟨_, rfl⟩
  rw [hX1] at hr' hf' hi'
  have HR1 : Hid (X1.heap[g]? = some (.cells (volC root ⟨#[]⟩ 0 0 0 0 (.slice none 0 0) ⟨#[]⟩ 0 0 (.slice none 0 0)) 319 (0, 0))) := hr'
  have HF1 : Hid _ := hf'
  have HI1 : Hid _ := hi'
  have HP : Hid _ := rplace r s1 X1 hi'
  clear hD hr hf hr' hf' hi'
  go_wp2_with fail
  try rw [hX1]
  clear hX1 c0 f0
  refine Calls.mono HP.out ?_
  rintro e w1' ⟨rfl, rfl⟩
  go_wp2_with fail
  refine Calls.mono (H2.out _ HI1.out) ?_
  rintro e w2 ⟨vE, rfl, hO, hD⟩
  replace hO := own_base hO HF1.out.size
  obtain ⟨aE, kE, hvE⟩ := own_shape hO
  subst hvE
  obtain ⟨hr, hf⟩ := HSTEP.out _ _ _ _ HR1.out HF1.out hD
  have a2 : w2.cell? ⟨g, 2, none⟩ = some (.int .i64 0) := cell_of_row _ _ _ _ 319 _ hr
  have b2 := frozen_of_row w2 g 2 _ 319 hr
  obtain ⟨r2, q2, i2⟩ := HSET.out w2 _ L.st 2 (.int .i64 L.K) hr hf hD.1
  replace r2 : (w2.setCell ⟨g, 2, none⟩ (.int .i64 L.K)).heap[g]? = some (.cells (volC root ⟨#[]⟩ L.K 0 0 0 (.slice none 0 0) ⟨#[]⟩ 0 0 (.slice none 0 0)) 319 (0, 0)) := r2
  have o2 := HOWS.out _ _ _ 2 _ (.int .i64 L.K) _ _ hO hr
  have a3 : (w2.setCell ⟨g, 2, none⟩ (.int .i64 L.K)).cell? ⟨g, 3, none⟩ = some (.int .i64 0) := cell_of_row _ _ _ _ 319 _ r2
  have b3 := frozen_of_row _ g 3 _ 319 r2
  obtain ⟨r3, q3, i3⟩ := HSET.out _ _ L.st 3 (.int .i64 L.M) r2 q2 i2
  replace r3 : ((w2.setCell ⟨g, 2, none⟩ (.int .i64 L.K)).setCell ⟨g, 3, none⟩ (.int .i64 L.M)).heap[g]? = some (.cells (volC root ⟨#[]⟩ L.K L.M 0 0 (.slice none 0 0) ⟨#[]⟩ 0 0 (.slice none 0 0)) 319 (0, 0)) := r3
  have o3 := HOWS.out _ _ _ 3 _ (.int .i64 L.M) _ _ o2 r2
  have a4 : ((w2.setCell ⟨g, 2, none⟩ (.int .i64 L.K)).setCell ⟨g, 3, none⟩ (.int .i64 L.M)).cell? ⟨g, 4, none⟩ = some (.int .i64 0) := cell_of_row _ _ _ _ 319 _ r3
  have b4 := frozen_of_row _ g 4 _ 319 r3
  obtain ⟨r4, q4, i4⟩ := HSET.out _ _ L.st 4 (.int .i64 L.C) r3 q3 i3
  replace r4 : (((w2.setCell ⟨g, 2, none⟩ (.int .i64 L.K)).setCell ⟨g, 3, none⟩ (.int .i64 L.M)).setCell ⟨g, 4, none⟩ (.int .i64 L.C)).heap[g]? = some (.cells (volC root ⟨#[]⟩ L.K L.M L.C 0 (.slice none 0 0) ⟨#[]⟩ 0 0 (.slice none 0 0)) 319 (0, 0)) := r4
  have o4 := HOWS.out _ _ _ 4 _ (.int .i64 L.C) _ _ o3 r3
  have a5 : (((w2.setCell ⟨g, 2, none⟩ (.int .i64 L.K)).setCell ⟨g, 3, none⟩ (.int .i64 L.M)).setCell ⟨g, 4, none⟩ (.int .i64 L.C)).cell? ⟨g, 5, none⟩ = some (.int .i64 0) := cell_of_row _ _ _ _ 319 _ r4
  have b5 := frozen_of_row _ g 5 _ 319 r4
  obtain ⟨r5, q5, i5⟩ := HSET.out _ _ L.st 5 (.int .i64 L.V) r4 q4 i4
  replace r5 : ((((w2.setCell ⟨g, 2, none⟩ (.int .i64 L.K)).setCell ⟨g, 3, none⟩ (.int .i64 L.M)).setCell ⟨g, 4, none⟩ (.int .i64 L.C)).setCell ⟨g, 5, none⟩ (.int .i64 L.V)).heap[g]? = some (.cells (volC root ⟨#[]⟩ L.K L.M L.C L.V (.slice none 0 0) ⟨#[]⟩ 0 0 (.slice none 0 0)) 319 (0, 0)) := r5
  have o5 := HOWS.out _ _ _ 5 _ (.int .i64 L.V) _ _ o4 r4
  have a6 : ((((w2.setCell ⟨g, 2, none⟩ (.int .i64 L.K)).setCell ⟨g, 3, none⟩ (.int .i64 L.M)).setCell ⟨g, 4, none⟩ (.int .i64 L.C)).setCell ⟨g, 5, none⟩ (.int .i64 L.V)).cell? ⟨g, 6, none⟩ = some (.slice none 0 0) := cell_of_row _ _ _ _ 319 _ r5
  have b6 := frozen_of_row _ g 6 _ 319 r5
  obtain ⟨r6, q6, i6⟩ := HSET.out _ _ L.st 6 (.slice aE L.es.length kE) r5 q5 i5
  have o6 := HOWS.out _ _ _ 6 _ (.slice aE L.es.length kE) _ _ o5 r5
  obtain ⟨X6, hX6⟩ : ∃ X, ((((w2.setCell ⟨g, 2, none⟩ (.int .i64 L.K)).setCell ⟨g, 3, none⟩ (.int .i64 L.M)).setCell ⟨g, 4, none⟩ (.int .i64 L.C)).setCell ⟨g, 5, none⟩ (.int .i64 L.V)).setCell ⟨g, 6, none⟩ (.slice aE L.es.length kE) = X := ⟨_, rfl⟩
  rw [hX6] at r6 q6 i6 o6
  have HR6 : Hid (X6.heap[g]? = some (.cells (volC root ⟨#[]⟩ L.K L.M L.C L.V (.slice aE L.es.length kE) ⟨#[]⟩ 0 0 (.slice none 0 0)) 319 (0, 0))) := r6
  have HF6 : Hid _ := q6
  have HI6 : Hid _ := i6
  have HO6 : Hid _ := o6
  clear hr hf hD hO r2 q2 i2 o2 r3 q3 i3 o3 r4 q4 i4 o4 r5 q5 i5 o5 r6 q6 i6 o6
  go_wp2_with fail
  try rw [hX6]
  clear hX6 a2 b2 a3 b3 a4 b4 a5 b5 a6 b6
  refine Calls.mono (H4.out _ HI6.out) ?_
  rintro e w7 ⟨rfl, hB⟩
  have hD := RDid.same HI6.out hB
  obtain ⟨hr, hf⟩ := HSTEP.out _ _ _ _ HR6.out HF6.out hD
  have hO := HOWN.out _ _ _ _ _ _ _ _ HO6.out HI6.out hD
  have a1 : w7.cell? ⟨g, 1, none⟩ = some (.string ⟨#[]⟩) := cell_of_row _ _ _ _ 319 _ hr
  have b1 := frozen_of_row w7 g 1 _ 319 hr
  obtain ⟨r7, q7, i7⟩ := HSET.out w7 _ L.st 1 (.string lst) hr hf hD.1
  have o7 := HOWS.out _ _ _ 1 _ (.string lst) _ _ hO hr
  obtain ⟨X7, hX7⟩ : ∃ X, w7.setCell ⟨g, 1, none⟩ (.string lst) = X := ⟨_, rfl⟩
  rw [hX7] at r7 q7 i7 o7
  have a5 : X7.cell? ⟨g, 5, none⟩ = some (.int .i64 L.V) := cell_of_row _ _ _ _ 319 _ r7
  have HR7 : Hid (X7.heap[g]? = some (.cells (volC root lst L.K L.M L.C L.V (.slice aE L.es.length kE) ⟨#[]⟩ 0 0 (.slice none 0 0)) 319 (0, 0))) := r7
  have HF7 : Hid _ := q7
  have HI7 : Hid _ := i7
  have HO7 : Hid _ := o7
  clear hB hr hf hD hO r7 q7 i7 o7
  go_wp2_with fail
  try rw [hX7]
  clear hX7 a1 b1 a5
  rw [show wrap64 ((L.V : Int) - 1) = (L.V : Int) - 1 by have := HV.out; unfold wrap64; omega]
  refine Calls.mono (H3.out _ HI7.out) ?_
  rintro e w8 ⟨rfl, hD⟩
  obtain ⟨hr, hf⟩ := HSTEP.out _ _ _ _ HR7.out HF7.out hD
  have hO := HOWN.out _ _ _ _ _ _ _ _ HO7.out HI7.out hD
  have a8 : w8.cell? ⟨g, 8, none⟩ = some (.int .i64 0) := cell_of_row _ _ _ _ 319 _ hr
  have b8 := frozen_of_row w8 g 8 _ 319 hr
  obtain ⟨r8, q8, i8⟩ := HSET.out w8 _ s2 8 (.int .i64 num) hr hf hD.1
  have o8 := HOWS.out _ _ _ 8 _ (.int .i64 num) _ _ hO hr
  obtain ⟨X8, hX8⟩ : ∃ X, w8.setCell ⟨g, 8, none⟩ (.int .i64 num) = X := ⟨_, rfl⟩
  rw [hX8] at r8 q8 i8 o8
  have HW : Hid _ := rwrong r s2 X8 i8
  have HR8 : Hid (X8.heap[g]? = some (.cells (volC root lst L.K L.M L.C L.V (.slice aE L.es.length kE) ⟨#[]⟩ num 0 (.slice none 0 0)) 319 (0, 0))) := r8
  have HF8 : Hid _ := q8
  have HI8 : Hid _ := i8
  have HO8 : Hid _ := o8
  clear hr hf hD hO r8 q8 i8 o8
  go_wp2_with fail
  try rw [hX8]
  clear hX8 a8 b8
  refine Calls.mono HW.out ?_
  rintro e w9 ⟨rfl, hB⟩
  have hD := RDid.same HI8.out hB
  obtain ⟨hr, hf⟩ := HSTEP.out _ _ _ _ HR8.out HF8.out hD
  have hO := HOWN.out _ _ _ _ _ _ _ _ HO8.out HI8.out hD
  have HR9 : Hid _ := hr
  have HF9 : Hid _ := hf
  have HI9 : Hid _ := hD.1
  have HO9 : Hid _ := hO
  clear hr hf hD hO hB HR0 HF0 HI0 HR1 HF1 HI1 HR6 HF6 HI6 HO6 HR7 HF7 HI7 HO7 HW HR8 HF8 HI8 HO8
  cases hwr : s2.wrong with
  | true =>
    go_wp2_with fail
    go_ret
    rw [HTOLD.out, if_pos hwr]
    exact ⟨g, _, rfl, Nat.le_of_eq HG.out, HR9.out, HO9.out, HI9.out, HF9.out⟩
  | false =>
    obtain ⟨k0, k1, k2, k3⟩ := HLOK.out hwr
    have c2 : w9.cell? ⟨g, 2, none⟩ = some (.int .i64 L.K) := cell_of_row _ _ _ _ 319 _ HR9.out
    have c3 : w9.cell? ⟨g, 3, none⟩ = some (.int .i64 L.M) := cell_of_row _ _ _ _ 319 _ HR9.out
    have c4 : w9.cell? ⟨g, 4, none⟩ = some (.int .i64 L.C) := cell_of_row _ _ _ _ 319 _ HR9.out
    have c5 : w9.cell? ⟨g, 5, none⟩ = some (.int .i64 L.V) := cell_of_row _ _ _ _ 319 _ HR9.out
    have c6 : w9.cell? ⟨g, 6, none⟩ = some (.slice aE L.es.length kE) := cell_of_row _ _ _ _ 319 _ HR9.out
    have HC : Hid _ := hcount g _ L.es.length kE L.K L.M L.C L.V aE L.es w9 c2 c3 c4 c5 c6 rfl HO9.out (fun i => Nat.le_trans (lenE_take_le _ i) (by omega)) (by omega) k0 k1 k2 k3
    clear c2 c3 c4 c5 c6 k0 k1 k2 k3
    go_wp2_with fail
    refine Calls.mono HC.out ?_
    rintro e w10 ⟨rfl, hB⟩
    have hD := RDid.same HI9.out hB
    obtain ⟨hr, hf⟩ := HSTEP.out _ _ _ _ HR9.out HF9.out hD
    have hO := HOWN.out _ _ _ _ _ _ _ _ HO9.out HI9.out hD
    have HR10 : Hid _ := hr
    have HF10 : Hid _ := hf
    have HI10 : Hid _ := hD.1
    have HO10 : Hid _ := hO
    clear hr hf hD hO hB HC
    obtain ⟨cn, hcn⟩ : ∃ x, L.cnt = x := ⟨_, rfl⟩
    have hcn2 : nst (L.K * L.C) (lenE L.es) * (L.K + L.M) = cn := hcn
    rw [hcn2]
    have hcb : cn ≤ 10000000 := by rw [← hcn]; exact HCB.out hwr
    have HT : Hid (s.told = ⟨((if 512 < cn then s2.refuse else s2).bytes (cn * 32)).1, root, lst, L, num, ((if 512 < cn then s2.refuse else s2).bytes (cn * 32)).2⟩) := by
      show _ = _
      rw [HTOLD.out, if_neg (by rw [hwr]; simp), hcn]
    clear hcn hcn2
    have HEND : Hid (∀ (s3 : RS) (X : World), (if 512 < cn then s2.refuse else s2) = s3 → X.heap[g]? = some (.cells (volC root lst L.K L.M L.C L.V (.slice aE L.es.length kE) ⟨#[]⟩ num 0 (.slice none 0 0)) 319 (0, 0)) → Fr (fun j => j = r) w X → RI r s3 X → X.ownsRow w.heap.size 70 2 (.slice aE L.es.length kE) L.es.length (enV L.es) → Calls Tryz.prog 249 #[.pointer (some ⟨r, 0, none⟩), .int .i64 (cn * 32 : Nat)] X fun e w' => e = .returned (.string s.told.lv) ∧ w'.cell? ⟨g, 7, none⟩ = some (.string ⟨#[]⟩) ∧ w'.frozen? ⟨g, 7, none⟩ = false ∧ Hid ((w'.setCell ⟨g, 7, none⟩ (.string s.told.lv)).heap[g]? = some (.cells (volC s.told.root s.told.lst s.told.L.K s.told.L.M s.told.L.C s.told.L.V (.slice aE L.es.length kE) s.told.lv s.told.num 0 (.slice none 0 0)) 319 (0, 0)) ∧ (w'.setCell ⟨g, 7, none⟩ (.string s.told.lv)).ownsRow w.heap.size 70 2 (.slice aE L.es.length kE) s.told.L.es.length (enV s.told.L.es) ∧ RDid r s.told.st w (w'.setCell ⟨g, 7, none⟩ (.string s.told.lv)))) := by
      intro s3 X h3 hr hf hi ho
      have HT' := HT.out
      rw [h3] at HT'
      rw [HT']
      refine Calls.mono (rbytes r s3 (cn * 32) X hi (by omega)) ?_
      rintro e w' ⟨rfl, hD⟩
      obtain ⟨hr, hf⟩ := HSTEP.out _ _ _ _ hr hf hD
      have hO := HOWN.out _ _ _ _ _ _ _ _ ho hi hD
      obtain ⟨r8, q8, i8⟩ := HSET.out w' _ _ 7 (.string (s3.bytes (cn * 32)).2) hr hf hD.1
      have o8 := HOWS.out _ _ _ 7 _ (.string (s3.bytes (cn * 32)).2) _ _ hO hr
      exact ⟨rfl, cell_of_row _ _ _ _ 319 _ hr, frozen_of_row w' g 7 _ 319 hr, r8, o8, i8, q8⟩
    by_cases hbig : 512 < cn
    · have HRF : Hid _ := rrefuse r s2 w10 HI10.out
      go_wp2_with fail
      refine Calls.mono HRF.out ?_
      rintro e w11 ⟨rfl, hD⟩
      obtain ⟨hr, hf⟩ := HSTEP.out _ _ _ _ HR10.out HF10.out hD
      have hO := HOWN.out _ _ _ _ _ _ _ _ HO10.out HI10.out hD
      have HE : Hid _ := HEND.out s2.refuse w11 (if_pos hbig) hr hf hD.1 hO
      clear hr hf hO hD
      go_wp2_with fail
      rw [show (cn : Int) * 32 = ((cn * 32 : Nat) : Int) by simp]
      refine Calls.mono HE.out ?_
      rintro e w12 ⟨rfl, c7, f7, HH⟩
      go_wp2_with fail
      go_ret
      exact ⟨g, _, rfl, Nat.le_of_eq HG.out, HH.out⟩
    · have HE : Hid _ := HEND.out s2 w10 (if_neg hbig) HR10.out HF10.out HI10.out HO10.out
      go_wp2_with fail
      rw [show (cn : Int) * 32 = ((cn * 32 : Nat) : Int) by simp]
      refine Calls.mono HE.out ?_
      rintro e w12 ⟨rfl, c7, f7, HH⟩
      go_wp2_with fail
      go_ret
      exact ⟨g, _, rfl, Nat.le_of_eq HG.out, HH.out⟩
end Go.Proofs.YtadinjaocnlglaaGreatDoor
