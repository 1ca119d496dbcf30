/-
  Close of a Draft, and the methods of vault's Writer, whatever they answer.
-/
import Derived.Test.YtadinjaocnlglaaGreatDoorZ32
import Derived.Test.YtadinjaocnlglaaGreatDoorZ28
namespace Go.Proofs.YtadinjaocnlglaaGreatDoor
open Go.RowKit Go.Maps Go.Sort Go.Shelf
set_option maxRecDepth 100000
set_option maxHeartbeats 1000000
/-- the data of the object with that name -/
def datA (l : List (ByteArray × ByteArray)) (s : List UInt8) : List UInt8 := match l.find? (fun o => o.1.data.toList == s) with
  | some o => o.2.data.toList
  | none => []
/-- the names in their order -/
def nmA (l : List (ByteArray × ByteArray)) : List (List UInt8) := (l.map fun o => o.1.data.toList).mergeSort leB
theorem fst_inj {l : List (ByteArray × ByteArray)} (hn : (l.map (·.1)).Nodup) {i j : Nat} (hi : i < l.length) (hj : j < l.length) (h : l[i].1 = l[j].1) : i = j := by
  have hp := List.pairwise_iff_getElem.1 (List.pairwise_map.1 hn)
  rcases Nat.lt_trichotomy i j with h1 | h1 | h1
  · exact absurd h (hp i j hi hj h1)
  · exact h1
  · exact absurd h.symm (hp j i hj hi h1)
theorem datA_at (l : List (ByteArray × ByteArray)) (hn : (l.map (·.1)).Nodup) (o : ByteArray × ByteArray) (ho : o ∈ l) : datA l o.1.data.toList = o.2.data.toList := by
  unfold datA
  cases e : l.find? (fun p => p.1.data.toList == o.1.data.toList) with
  | none =>
    have := List.find?_eq_none.1 e o ho
    simp at this
  | some p =>
    have h1 := List.find?_some e
    have h2 := List.mem_of_find?_eq_some e
    have h3 : p.1 = o.1 := by_inj (by simpa using h1)
    obtain ⟨i, hi, rfl⟩ := List.getElem_of_mem h2
    obtain ⟨j, hj, rfl⟩ := List.getElem_of_mem ho
    have h4 := fst_inj hn hi hj h3
    subst h4
    rfl
theorem OM.obs {w : World} {S : Nat → Prop} {obs : List (ByteArray × ByteArray)} {m : Nat} {D : DataW Nat} {B : Nat → Nat} {Dv : Nat → Value} (h : OM w S obs m D B Dv) (hn : (obs.map (·.1)).Nodup) : Obs w D (datA obs) := by
  intro s hs
  obtain ⟨o, ho, rfl⟩ := List.mem_map.1 (h.keys.mem_iff.1 hs)
  obtain ⟨i, hi, rfl⟩ := List.getElem_of_mem ho
  refine ⟨B i, _, Dv i, h.key i hi, h.cell i hi, ?_⟩
  rw [datA_at obs hn _ (List.getElem_mem hi)]
  have := h.row i hi
  rw [Lib.strCells_eq] at this
  exact this
theorem OM.nm {w : World} {S : Nat → Prop} {obs : List (ByteArray × ByteArray)} {m : Nat} {D : DataW Nat} {B : Nat → Nat} {Dv : Nat → Value} (h : OM w S obs m D B Dv) : nmS D = nmA obs := mergeSort_of_perm h.keys
theorem dat_len (l : List (ByteArray × ByteArray)) (hn : (l.map (·.1)).Nodup) : (dtT (datA l) (nmA l)).size = sumL l := by
  have hp : (nmA l).Perm (l.map fun o => o.1.data.toList) := List.mergeSort_perm _ leB
  show (datL (datA l) (nmA l) (nmA l).length).toArray.size = _
  rw [List.size_toArray]
  unfold datL
  rw [List.take_length, List.length_flatMap, (hp.map _).sum_nat, List.map_map]
  unfold sumL
  congr 1
  refine List.map_congr_left fun o ho => ?_
  show (datA l o.1.data.toList).length = _
  rw [datA_at l hn o ho]
  rfl
theorem size_le_sum : ∀ (l : List (ByteArray × ByteArray)) (o : ByteArray × ByteArray), o ∈ l → o.2.size ≤ sumL l
  | p :: r, o, h => by
    have e : sumL (p :: r) = p.2.size + sumL r := by simp [sumL]
    rcases List.mem_cons.1 h with rfl | h
    · omega
    · have := size_le_sum r o h; omega
theorem rw_own {w : World} {B g n : Nat} {L : Nat → ByteArray} (h : Rw w g n 9 (tX L)) (hB : B ≤ g) (hn : n ≤ maxLen) : w.ownsRow B 9 1 (.slice (some ⟨g, 0, none⟩) n n) n (txV L n) := by
  refine ⟨by simp [txV], .inr ⟨g, n, _, rfl, hB, h, Nat.le_refl _, hn, by rw [rowV_size, Nat.mul_one], ?_⟩⟩
  rw [Nat.mul_one, List.take_of_length_le (by simp [rowV])]
  exact List.ext_getElem (by simp [rowV, txV]) (fun i h1 h2 => by simp [rowV, txV, tX])
/-- a list that comes out: none, or a row of its own, new and full -/
def LsX (B : Nat) (a : Value) (n : Nat) (L : Nat → ByteArray) (w : World) : Prop := (a = .slice none 0 0 ∧ n = 0) ∨ ∃ g, a = .slice (some ⟨g, 0, none⟩) n n ∧ B ≤ g ∧ Rw w g n 9 (tX L)
theorem LsX.own {B n : Nat} {a : Value} {L : Nat → ByteArray} {w : World} (h : LsX B a n L w) (hn : n ≤ maxLen) : w.ownsRow B 9 1 a n (txV L n) := by
  rcases h with ⟨rfl, rfl⟩ | ⟨g, rfl, h1, h2⟩
  · exact ⟨by simp [txV], .inl ⟨rfl, rfl⟩⟩
  · exact rw_own h2 h1 hn
theorem LsX.kept {B n : Nat} {a : Value} {L : Nat → ByteArray} {w w' : World} (h : LsX B a n L w) (hk : ∀ j, B ≤ j → j < w.heap.size → w'.heap[j]? = w.heap[j]?) : LsX B a n L w' := by
  rcases h with h | ⟨g, h0, h1, h2⟩
  · exact .inl h
  · exact .inr ⟨g, h0, h1, by unfold Rw; rw [hk g h1 h2.lt]; exact h2⟩
/-- what Close gives -/
def clN (A : AW) : Nat := if A.clE = [] then A.V else 0
def clT (kt : Nat → Int) (A : AW) : Nat → ByteArray := voT kt A.K A.M A.C A.V (datA A.ob) (nmA A.ob)
def clR (kt : Nat → Int) (A : AW) : ByteArray := if A.clE = [] then rtT kt A.K A.M A.C A.V (datA A.ob) (nmA A.ob) else ⟨#[]⟩
/-- the Draft is closed -/
theorem Did.closed {g : Nat} {S : Nat → Prop} {A : AW} {w w' : World} (h : DI g S A w) (hg : w'.heap[g]? = some (.cells (dZ A.K A.M A.C A.V (.map none) (.pointer none) A.n A.tot A.br.isSome A.fst.1 A.fst.2 true) 252 (0, 0))) (hf : Fr (fun x => x = g) w w') : DI g S A.clA w' ∧ Fr S w w' := by
  refine ⟨⟨h.sg, fun j hj => Nat.lt_of_lt_of_le (h.lt j hj) hf.size, .map none, .pointer none, hg, fun hs => ?_⟩, hf.mono (fun j _ hj => by rw [hj]; exact h.sg)⟩
  have := (state_nil hs).1
  cases this
def ClD (kt : Nat → Int) (A : AW) (B : Nat) (P : World → Prop) (v : Value) (w' : World) : Prop := ∃ a c, v = .tuple #[a, .string (clR kt A), c] ∧ ErrAt w' c A.clE ∧ LsX B a (clN A) (clT kt A) w' ∧ P w'
theorem dclose_any (kt : Nat → Int) (g : Nat) (S : Nat → Prop) (A : AW) (w : World) (hI : DI g S A w) (hA : A.ok) (hg1 : 4 ≤ g) (hG : Gd kt w) :
    Calls Tryz.prog 103 #[.pointer (some ⟨g, 0, none⟩)] w fun e w' => ∃ a b c, e = .returned (.tuple #[a, b, c]) ∧ ClD kt A w.heap.size (fun w' => DI g S A.clA w' ∧ Fr S w w') (.tuple #[a, b, c]) w' := by
  obtain ⟨obj, last, hg0, hO⟩ := hI.cells
  have hno : A.clE ≠ [] → clN A = 0 ∧ clR kt A = ⟨#[]⟩ := fun h => ⟨by unfold clN; rw [if_neg h], by unfold clR; rw [if_neg h]⟩
  cases hc : A.cl with
  | true =>
    have e1 : A.clE = [(5, (A.n : Int))] := by unfold AW.clE; rw [hc]; rfl
    obtain ⟨e2, e3⟩ := hno (by rw [e1]; simp)
    have e4 : A.clA = A := by unfold AW.clA; rw [← hc]
    rw [hc] at hg0
    refine (dclose_cl g _ _ _ _ A.n A.tot obj last _ _ _ w hg0).mono ?_
    rintro e w' ⟨v, rfl, hE, hb⟩
    refine ⟨_, _, _, rfl, _, _, by rw [e3], by rw [e1]; exact hE, by rw [e2]; exact .inl ⟨rfl, rfl⟩, ?_⟩
    rw [e4]
    exact ⟨hI.kept hb.size (fun j hj => hb.block j (hI.lt j hj)), Fr.below hb⟩
  | false =>
    rw [hc] at hg0
    cases hbr : A.br with
    | some p =>
      have e1 : A.clE = [(6, (A.n : Int)), p] := by unfold AW.clE; rw [hc, hbr]; rfl
      obtain ⟨e2, e3⟩ := hno (by rw [e1]; simp)
      have e5 : A.br.isSome = true := by rw [hbr]; rfl
      have e6 : A.fst = p := by unfold AW.fst; rw [hbr]; rfl
      have hg1' := hg0
      rw [e5, e6] at hg0
      refine (dclose_br g _ _ _ _ A.n A.tot obj last _ _ w hg0).mono ?_
      rintro e w' ⟨v, rfl, hE, hg', hf⟩
      refine ⟨_, _, _, rfl, _, _, by rw [e3], by rw [e1]; exact hE, by rw [e2]; exact .inl ⟨rfl, rfl⟩, ?_⟩
      exact Did.closed hI (by rw [e5, e6]; exact hg') hf
    | none =>
      have hs : A.state = [] := by unfold AW.state; rw [hc, hbr]; rfl
      have e5 : A.br.isSome = false := by rw [hbr]; rfl
      have e6 : A.fst = (0, 0) := by unfold AW.fst; rw [hbr]; rfl
      rw [e5, e6] at hg0
      have htot := hA.tot
      have hnb : nst (A.K * A.C) A.tot * (A.K + A.M) = A.nb := rfl
      by_cases hbig : 512 < A.nb
      · have e1 : A.clE = [(4, (A.nb : Int))] := by unfold AW.clE; rw [hc, hbr]; simp [hbig]
        obtain ⟨e2, e3⟩ := hno (by rw [e1]; simp)
        refine (dclose_big g _ _ _ _ A.n A.tot obj last w hg0 (by omega) hA.K1 hA.KM hA.C1 hA.C2 (by rw [hnb]; exact hbig)).mono ?_
        rintro e w' ⟨v, rfl, hE, hg', hf⟩
        refine ⟨_, _, _, rfl, _, _, by rw [e3], by rw [e1]; exact hE, by rw [e2]; exact .inl ⟨rfl, rfl⟩, ?_⟩
        exact Did.closed hI (by rw [e5, e6]; exact hg') hf
      · have e1 : A.clE = [] := by unfold AW.clE; rw [hc, hbr]; simp [hbig]
        have e2 : clN A = A.V := by unfold clN; rw [if_pos e1]
        have e3 : clR kt A = rtT kt A.K A.M A.C A.V (datA A.ob) (nmA A.ob) := by unfold clR; rw [if_pos e1]
        obtain ⟨m, D, B, Dv, rfl, hlast, hM⟩ := hO hs
        have hl := dat_len A.ob hA.nd
        have hmem : ∀ s, s ∈ strKeys D → ∃ o ∈ A.ob, o.1.data.toList = s := fun s hs' => List.mem_map.1 (hM.keys.mem_iff.1 hs')
        have hnbT : nbT A.K A.M A.C (dtT (datA A.ob) (nmS D)) = A.nb := by unfold nbT; rw [hM.nm, hl]; rfl
        refine (dclose_full kt g m A.K A.M A.C A.V A.n A.tot last D (datA A.ob) w hg0 hg1 hM.map (hM.obs hA.nd) hA.n16 ?_ ?_ (by rw [hM.nm, hl]; rfl) (by omega) hA.K1 hA.KM hA.C1 hA.C2 hA.V1 hA.V2 (by rw [hnbT]; omega) hG).mono ?_
        · intro s hs'
          obtain ⟨o, ho, rfl⟩ := hmem s hs'
          rw [datA_at A.ob hA.nd o ho]
          have h1 := size_le_sum A.ob o ho
          have h2 : o.2.data.toList.length = o.2.size := rfl
          have h3 : sumL A.ob = A.tot := rfl
          omega
        · intro s hs'
          obtain ⟨o, ho, rfl⟩ := hmem s hs'
          have h1 := (hA.nm o ho).2
          have h2 : o.1.data.toList.length = o.1.size := rfl
          omega
        · rintro e w' ⟨gv, rfl, b1, b2, b3, b4, b5, b6⟩
          refine ⟨_, _, _, rfl, _, _, by rw [e3, ← hM.nm], by rw [e1]; rfl, ?_, ?_⟩
          · rw [e2]
            rw [hM.nm] at b2
            exact .inr ⟨gv, rfl, b1, b2⟩
          · exact Did.closed hI (by rw [e5, e6]; exact b6) ⟨b3, fun j hj hn => b4 j hj hn, b5⟩
/-- vault's Writer is this one -/
def XI (x : Nat) (S : Nat → Prop) (A : AW) (w : World) : Prop := ∃ g T, w.heap[x]? = some (.cells (wC 0 g) 180 (0, 0)) ∧ ¬ T x ∧ (∀ j, S j ↔ j = x ∨ T j) ∧ DI g T A w
def XDid (x : Nat) (S : Nat → Prop) (A : AW) (w w' : World) : Prop := ∃ S', XI x S' A w' ∧ Gro S S' w.heap.size ∧ Fr S w w'
theorem XI.lt {x : Nat} {S : Nat → Prop} {A : AW} {w : World} (h : XI x S A w) : ∀ j, S j → j < w.heap.size := by
  obtain ⟨g, T, hx, hT, hS, hD⟩ := h
  intro j hj
  rcases (hS j).1 hj with rfl | hj
  · exact (Array.getElem?_eq_some_iff.1 hx).1
  · exact hD.lt j hj
theorem XI.kept {x : Nat} {S : Nat → Prop} {A : AW} {w w' : World} (h : XI x S A w) (hs : w.heap.size ≤ w'.heap.size) (hk : ∀ j, S j → w'.heap[j]? = w.heap[j]?) : XI x S A w' := by
  obtain ⟨g, T, hx, hT, hS, hD⟩ := h
  exact ⟨g, T, by rw [hk x ((hS x).2 (.inl rfl))]; exact hx, hT, hS, hD.kept hs (fun j hj => hk j ((hS j).2 (.inr hj)))⟩
theorem DI.mono {g : Nat} {S T : Nat → Prop} {A : AW} {w : World} (h : DI g S A w) (hT : ∀ j, S j → T j) (hl : ∀ j, T j → j < w.heap.size) : DI g T A w := by
  obtain ⟨obj, last, h1, h2⟩ := h.cells
  refine ⟨hT _ h.sg, hl, obj, last, h1, fun hA => ?_⟩
  obtain ⟨m, D, B, Dv, h3, h4, h5⟩ := h2 hA
  exact ⟨m, D, B, Dv, h3, h4, h5.kept hT (fun _ _ => rfl)⟩
theorem XI.mono {x : Nat} {S T : Nat → Prop} {A : AW} {w : World} (h : XI x S A w) (hT : ∀ j, S j → T j) (hl : ∀ j, T j → j < w.heap.size) : XI x T A w := by
  obtain ⟨g, U, hx, hU, hS, hD⟩ := h
  refine ⟨g, fun j => T j ∧ j ≠ x, hx, fun h => h.2 rfl, fun j => ⟨fun h => ?_, fun h => ?_⟩, hD.mono (fun j hj => ⟨hT j ((hS j).2 (.inr hj)), fun e => hU (by rw [← e]; exact hj)⟩) (fun j hj => hl j hj.1)⟩
  · by_cases e : j = x
    · exact .inl e
    · exact .inr ⟨h, e⟩
  · rcases h with rfl | h
    · exact hT _ ((hS _).2 (.inl rfl))
    · exact h.1
theorem DI.locked {x g : Nat} {T : Nat → Prop} {A : AW} {w : World} (h : DI g T A w) (hT : ¬ T x) (v : Value) : DI g T A (w.setCell ⟨x, 0, none⟩ v) :=
  h.kept (by simp [World.setCell]) (fun j hj => set_other _ _ _ _ _ (fun e => hT (by rw [← e]; exact hj)))
theorem XDid.of {x g : Nat} {T S : Nat → Prop} {A : AW} {w w' : World} (hx : w.heap[x]? = some (.cells (wC 0 g) 180 (0, 0))) (hT : ¬ T x) (hS : ∀ j, S j ↔ j = x ∨ T j) (hD : Did g T A (w.setCell ⟨x, 0, none⟩ (.int .i32 1)) w') :
    w'.heap[x]? = some (.cells (wC 1 g) 180 (0, 0)) ∧ XDid x S A w (w'.setCell ⟨x, 0, none⟩ (.int .i32 0)) := by
  obtain ⟨T', hD', hG, hF⟩ := hD
  have hsz : (w.setCell ⟨x, 0, none⟩ (.int .i32 1)).heap.size = w.heap.size := by simp [World.setCell]
  rw [hsz] at hG
  have hxl : x < w.heap.size := (Array.getElem?_eq_some_iff.1 hx).1
  have hT' : ¬ T' x := fun h => by
    rcases hG x h with h1 | h1
    · exact hT h1
    · omega
  have h1 : w'.heap[x]? = some (.cells (wC 1 g) 180 (0, 0)) := by
    rw [hF.old x (by rw [hsz]; exact hxl) hT]
    have := set_heap w x 0 (.int .i32 1) _ _ _ hx
    simpa [wC] using this
  have h2 : (w'.setCell ⟨x, 0, none⟩ (.int .i32 0)).heap[x]? = some (.cells (wC 0 g) 180 (0, 0)) := by
    have := set_heap w' x 0 (.int .i32 0) _ _ _ h1
    simpa [wC] using this
  refine ⟨h1, fun j => j = x ∨ T' j, ⟨g, T', h2, hT', fun j => Iff.rfl, hD'.locked hT' _⟩, ?_, ?_⟩
  · intro j hj
    rcases hj with rfl | hj
    · exact .inl ((hS j).2 (.inl rfl))
    · rcases hG j hj with h3 | h3
      · exact .inl ((hS j).2 (.inr h3))
      · exact .inr h3
  · have f1 : Fr S w (w.setCell ⟨x, 0, none⟩ (.int .i32 1)) := (Fr.refl S w).set (g := x) (.inl ((hS x).2 (.inl rfl))) 0 _
    have f2 : Fr S (w.setCell ⟨x, 0, none⟩ (.int .i32 1)) w' := hF.mono (fun j _ hj => (hS j).2 (.inr hj))
    exact (f1.trans' f2).set (g := x) (.inl ((hS x).2 (.inl rfl))) 0 _
theorem XSame.of {x g : Nat} {T S : Nat → Prop} {A : AW} {w w' : World} (hx : w.heap[x]? = some (.cells (wC 0 g) 180 (0, 0))) (hT : ¬ T x) (hS : ∀ j, S j ↔ j = x ∨ T j) (hD : DI g T A w' ∧ Fr T (w.setCell ⟨x, 0, none⟩ (.int .i32 1)) w') :
    w'.heap[x]? = some (.cells (wC 1 g) 180 (0, 0)) ∧ XI x S A (w'.setCell ⟨x, 0, none⟩ (.int .i32 0)) ∧ Fr S w (w'.setCell ⟨x, 0, none⟩ (.int .i32 0)) := by
  obtain ⟨hD', hF⟩ := hD
  have hsz : (w.setCell ⟨x, 0, none⟩ (.int .i32 1)).heap.size = w.heap.size := by simp [World.setCell]
  have hxl : x < w.heap.size := (Array.getElem?_eq_some_iff.1 hx).1
  have h1 : w'.heap[x]? = some (.cells (wC 1 g) 180 (0, 0)) := by
    rw [hF.old x (by rw [hsz]; exact hxl) hT]
    have := set_heap w x 0 (.int .i32 1) _ _ _ hx
    simpa [wC] using this
  have h2 : (w'.setCell ⟨x, 0, none⟩ (.int .i32 0)).heap[x]? = some (.cells (wC 0 g) 180 (0, 0)) := by
    have := set_heap w' x 0 (.int .i32 0) _ _ _ h1
    simpa [wC] using this
  refine ⟨h1, ⟨g, T, h2, hT, hS, hD'.locked hT _⟩, ?_⟩
  have f1 : Fr S w (w.setCell ⟨x, 0, none⟩ (.int .i32 1)) := (Fr.refl S w).set (g := x) (.inl ((hS x).2 (.inl rfl))) 0 _
  have f2 : Fr S (w.setCell ⟨x, 0, none⟩ (.int .i32 1)) w' := hF.mono (fun j _ hj => (hS j).2 (.inr hj))
  exact (f1.trans' f2).set (g := x) (.inl ((hS x).2 (.inl rfl))) 0 _
theorem ErrAt.unlock {w : World} {v : Value} {l : List (Int × Int)} {g : Nat} {cs : Array Value} (h : ErrAt w v l) (hg : w.heap[g]? = some (.cells cs 180 (0, 0))) (k : Nat) (a : Value) : ErrAt (w.setCell ⟨g, k, none⟩ a) v l :=
  h.kept fun e cs' he => by
    have hne : e ≠ g := fun e' => by rw [e', hg] at he; simp at he
    rw [set_other _ _ _ _ _ hne]
theorem LsX.unlock {w : World} {B n g k : Nat} {a v : Value} {L : Nat → ByteArray} {cs : Array Value} (h : LsX B a n L w) (hg : w.heap[g]? = some (.cells cs 180 (0, 0))) : LsX B a n L (w.setCell ⟨g, k, none⟩ v) := by
  rcases h with h | ⟨q, h0, h1, h2⟩
  · exact .inl h
  · refine .inr ⟨q, h0, h1, ?_⟩
    unfold Rw at h2 ⊢
    rw [set_other _ _ _ _ _ (fun e => by rw [e, hg] at h2; simp at h2)]
    exact h2
theorem xbegin_any (x : Nat) (S : Nat → Prop) (A : AW) (s : ByteArray) (w : World) (hI : XI x S A w) (hA : A.ok) :
    Calls Tryz.prog 56 #[.pointer (some ⟨x, 0, none⟩), .string s] w fun e w' => ∃ v, e = .returned v ∧ (ErrAt w' v (A.bgE s) ∧ XDid x S (A.bgA s) w w') := by
  obtain ⟨g, T, hx, hT, hS, hD⟩ := hI
  refine lk_begin x g s w (fun v w' => ErrAt w' v (A.bgE s) ∧ XDid x S (A.bgA s) w w') hx ?_
  refine (dbegin_any g T A s _ (hD.locked hT _) hA).mono ?_
  rintro e w' ⟨v, rfl, hE, hd⟩
  obtain ⟨h1, h2⟩ := XDid.of hx hT hS hd
  exact ⟨v, rfl, h1, hE.unlock h1 0 _, h2⟩
theorem xwrite_any (x : Nat) (S : Nat → Prop) (A : AW) (s : ByteArray) (w : World) (hI : XI x S A w) (hA : A.ok) :
    Calls Tryz.prog 57 #[.pointer (some ⟨x, 0, none⟩), .string s] w fun e w' => ∃ v, e = .returned (.tuple #[.int .i64 (if A.wrE s = [] then (s.size : Int) else 0), v]) ∧ (ErrAt w' v (A.wrE s) ∧ XDid x S (A.wrA s) w w') := by
  obtain ⟨g, T, hx, hT, hS, hD⟩ := hI
  refine (lk_write x g s w (fun t w' => ∃ v, t = .tuple #[.int .i64 (if A.wrE s = [] then (s.size : Int) else 0), v] ∧ (ErrAt w' v (A.wrE s) ∧ XDid x S (A.wrA s) w w')) hx ?_).mono ?_
  · refine (dwrite_any g T A s _ (hD.locked hT _) hA).mono ?_
    rintro e w' ⟨v, rfl, hE, hd⟩
    obtain ⟨h1, h2⟩ := XDid.of hx hT hS hd
    exact ⟨_, _, rfl, h1, v, rfl, hE.unlock h1 0 _, h2⟩
  · rintro e w' ⟨a, b, rfl, v, hv, h⟩
    exact ⟨v, by rw [hv], h⟩
theorem xclose_any (kt : Nat → Int) (x : Nat) (S : Nat → Prop) (A : AW) (w : World) (hI : XI x S A w) (hA : A.ok) (hlo : ∀ j, S j → 4 ≤ j) (hG : Gd kt w) :
    Calls Tryz.prog 58 #[.pointer (some ⟨x, 0, none⟩)] w fun e w' => ∃ a c, e = .returned (.tuple #[a, .string (clR kt A), c]) ∧ ErrAt w' c A.clE ∧ LsX w.heap.size a (clN A) (clT kt A) w' ∧ XI x S A.clA w' ∧ Fr S w w' := by
  obtain ⟨g, T, hx, hT, hS, hD⟩ := hI
  have hsz : (w.setCell ⟨x, 0, none⟩ (.int .i32 1)).heap.size = w.heap.size := by simp [World.setCell]
  refine (lk_close x g w (ClD kt A w.heap.size (fun w' => XI x S A.clA w' ∧ Fr S w w')) hx ?_).mono ?_
  · refine (dclose_any kt g T A _ (hD.locked hT _) hA (hlo g ((hS g).2 (.inr hD.sg))) (hG.set (hlo x ((hS x).2 (.inl rfl))))).mono ?_
    rintro e w' ⟨a, b, c, rfl, a', c', hv, hE, ho, hd⟩
    obtain ⟨h1, h2⟩ := XSame.of hx hT hS hd
    rw [hsz] at ho
    exact ⟨a, b, c, rfl, h1, a', c', hv, hE.unlock h1 0 _, ho.unlock h1, h2⟩
  · rintro e w' ⟨a, b, c, rfl, a', c', hv, h⟩
    exact ⟨a', c', by rw [hv], h⟩
end Go.Proofs.YtadinjaocnlglaaGreatDoor
