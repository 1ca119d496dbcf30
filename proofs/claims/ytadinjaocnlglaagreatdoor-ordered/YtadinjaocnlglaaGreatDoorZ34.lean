/-
  The document's Writer: what it has; state, breaks, total.
  The document's Writer: its rows, read; what a call leaves of it.
  The walk of looks.
-/
import Derived.Test.YtadinjaocnlglaaGreatDoorZ30
import Derived.Test.YtadinjaocnlglaaGreatDoorZ08
namespace Go.Proofs.YtadinjaocnlglaaGreatDoor
open Go.RowKit
set_option maxRecDepth 100000
set_option maxHeartbeats 1000000
def nmV (l : List (ByteArray × ByteArray)) : List Value := l.map fun o => .string o.1
def daV (l : List (ByteArray × ByteArray)) : List Value := l.map fun o => .string o.2
/-- the document's Writer is this one -/
structure YI (y : Nat) (S : Nat → Prop) (A : AW) (w : World) : Prop where
  sy : S y
  lt : ∀ j, S j → j < w.heap.size
  cells : ∃ vn vd vb, w.heap[y]? = some (.cells (yC A.K A.M A.C A.V vn vd vb A.cl) 185 (0, 0)) ∧ w.ownsRow 0 9 1 vn A.n (nmV A.ob) ∧ w.ownsRow 0 9 1 vd A.n (daV A.ob) ∧ w.ownsRow 0 250 2 vb A.br.toList.length (mkL A.br.toList) ∧
    (∀ q, vn.ownBlock = some q → S q) ∧ (∀ q, vd.ownBlock = some q → S q) ∧ (∀ q, vb.ownBlock = some q → S q) ∧ (∀ q, vn.ownBlock = some q → vd.ownBlock ≠ some q)
theorem YI.kept {y : Nat} {S : Nat → Prop} {A : AW} {w w' : World} (h : YI y S A w) (hs : w.heap.size ≤ w'.heap.size) (hk : ∀ j, S j → w'.heap[j]? = w.heap[j]?) : YI y S A w' := by
  obtain ⟨vn, vd, vb, h1, h2, h3, h4, h5, h6, h7, h8⟩ := h.cells
  exact ⟨h.sy, fun j hj => Nat.lt_of_lt_of_le (h.lt j hj) hs, vn, vd, vb, by rw [hk y h.sy]; exact h1, own_kept h2 (fun q hq => hk q (h5 q hq)), own_kept h3 (fun q hq => hk q (h6 q hq)), own_kept h4 (fun q hq => hk q (h7 q hq)), h5, h6, h7, h8⟩
/-- what a method leaves -/
def YDid (y : Nat) (S : Nat → Prop) (A : AW) (w w' : World) : Prop := ∃ S', YI y S' A w' ∧ Gro S S' w.heap.size ∧ Fr S w w'
theorem YDid.same {y : Nat} {S : Nat → Prop} {A : AW} {w w' : World} (h : YI y S A w) (hb : Below w.heap.size w w') : YDid y S A w w' :=
  ⟨S, h.kept hb.size (fun j hj => hb.block j (h.lt j hj)), Gro.refl _ _, Fr.below hb⟩
theorem own0 {w : World} {e : TypeId} {size B : Nat} : w.ownsRow B e size (.slice none 0 0) 0 [] := ⟨by simp, .inl ⟨rfl, rfl⟩⟩
theorem rstate_any (y : Nat) (S : Nat → Prop) (A : AW) (w : World) (hI : YI y S A w) :
    Calls Tryz.prog 141 #[.pointer (some ⟨y, 0, none⟩)] w fun e w' => ∃ v, e = .returned v ∧ w'.ownsRow w.heap.size 250 2 v A.state.length (mkL A.state) ∧ Below w.heap.size w w' := by
  obtain ⟨vn, vd, vb, hy, hn, hd, hb, _⟩ := hI.cells
  have hyl : y < w.heap.size := (Array.getElem?_eq_some_iff.1 hy).1
  have c4 : w.cell? ⟨y, 4, none⟩ = some vn := cell_of_row _ _ _ _ 185 _ hy
  have c6 : w.cell? ⟨y, 6, none⟩ = some vb := cell_of_row _ _ _ _ 185 _ hy
  have c7 : w.cell? ⟨y, 7, none⟩ = some (.bool A.cl) := cell_of_row _ _ _ _ 185 _ hy
  obtain ⟨an, cn, hvn⟩ := own_shape hn
  subst hvn
  obtain ⟨ab, cb, hvb⟩ := own_shape hb
  subst hvb
  have HBR : Hid _ := hb
  unfold AW.state
  cases hc : A.cl with
  | true =>
    rw [hc] at c7
    simp only [if_true]
    clear hy hn hd hb
    go_enter Tryz.func141, Tryz.ntmps141
    go_wp2_with fail
    refine (at_own _ _ _).mono ?_
    rintro e w1 ⟨v, rfl, ho, hb1⟩
    have HO : Hid _ := ho
    have HB : Hid _ := hb1
    clear ho hb1
    go_wp2
    go_ret
    exact ⟨_, rfl, HO.out, HB.out⟩
  | false =>
    rw [hc] at c7
    simp only [Bool.false_eq_true, if_false]
    cases hbr : A.br with
    | none =>
      rw [hbr] at c6
      clear hy hn hd hb
      go_enter Tryz.func141, Tryz.ntmps141
      go_wp2
      go_ret
      exact ⟨_, rfl, own0, Below.refl _ _⟩
    | some p =>
      rw [hbr] at c6 HBR
      have H : Hid (∀ X : World, Below w.heap.size w X → Calls Tryz.prog 105 #[.int .i64 5, .int .i64 A.n, .slice ab 1 cb] X fun e w' => ∃ v', e = .returned v' ∧ w'.ownsRow X.heap.size 250 2 v' 2 (mkL [(5, (A.n : Int)), p]) ∧ Below X.heap.size X w') := fun X hX => rover_any 5 A.n [p] (.slice ab 1 cb) 0 X (own_below HBR.out hX) (by simp)
      clear hy hn hd hb
      go_enter Tryz.func141, Tryz.ntmps141
      go_wp2_with fail
      go_region_held3 (fun w2 => w2.cell? ⟨y, 4, none⟩ = some (.slice an A.n cn) ∧ w2.cell? ⟨y, 6, none⟩ = some (.slice ab 1 cb)) (go_keep) ((go_at_call 105; refine Calls.mono (H.out _ (by first | exact Below.refl _ _ | exact (Below.refl _ _).drew)) ?_; rintro e w2 ⟨v2, rfl, ho2, hb2⟩; have hB2 : Below w.heap.size w w2 := (by first | exact hb2 | exact ((Below.refl _ _).drew).trans hb2); have q4 := (hB2.cell (p := ⟨y, 4, none⟩) hyl).trans c4; have q6 := (hB2.cell (p := ⟨y, 6, none⟩) hyl).trans c6))
      have HO : Hid (w2.ownsRow w.heap.size 250 2 v2 2 (mkL [(5, (A.n : Int)), p])) := ho2
      have HB : Hid _ := hB2
      clear ho2 hb2 hB2 q4 q6
      go_wp2
      go_ret
      exact ⟨_, rfl, HO.out, HB.out⟩
theorem rbreaks_any (k i : Int) (y : Nat) (K M C V : Int) (vn vd vb : Value) (cl : Bool) (w : World) (hy : w.heap[y]? = some (.cells (yC K M C V vn vd vb cl) 185 (0, 0))) :
    Calls Tryz.prog 142 #[.pointer (some ⟨y, 0, none⟩), .int .i64 k, .int .i64 i] w fun e w' => ∃ v vb', e = .returned v ∧ w'.ownsRow w.heap.size 250 2 v 1 (mkL [(k, i)]) ∧ w'.heap[y]? = some (.cells (yC K M C V vn vd vb' cl) 185 (0, 0)) ∧ w'.ownsRow w.heap.size 250 2 vb' 1 (mkL [(k, i)]) ∧ Fr (fun x => x = y) w w' := by
  have hyl : y < w.heap.size := (Array.getElem?_eq_some_iff.1 hy).1
  have HY : Hid _ := hy
  clear hy
  go_enter Tryz.func142, Tryz.ntmps142
  go_wp2_with fail
  refine (at_own _ _ _).mono ?_
  rintro e w1 ⟨v1, rfl, ho1, hb1⟩
  have hy1 : w1.heap[y]? = some (.cells (yC K M C V vn vd vb cl) 185 (0, 0)) := by rw [hb1.block y hyl]; exact HY.out
  have c6 : w1.cell? ⟨y, 6, none⟩ = some vb := cell_of_row _ _ _ _ 185 _ hy1
  have f6 : w1.frozen? ⟨y, 6, none⟩ = false := frozen_of_row _ _ _ _ 185 hy1
  obtain ⟨a1, c1, hs⟩ := own_shape ho1
  subst hs
  obtain ⟨W, hW⟩ : ∃ W, w1.setCell ⟨y, 6, none⟩ (.slice a1 1 c1) = W := ⟨_, rfl⟩
  have HYW : Hid (W.heap[y]? = some (.cells (yC K M C V vn vd (.slice a1 1 c1) cl) 185 (0, 0))) := by
    show _ = _
    rw [← hW]; exact set_heap w1 y 6 (.slice a1 1 c1) _ _ _ hy1
  have HOW : Hid (W.ownsRow w.heap.size 250 2 (.slice a1 1 c1) 1 (mkL [(k, i)])) := by
    show World.ownsRow _ _ _ _ _ _ _
    rw [← hW]
    refine ownsRow_setCell_other ho1 (fun e' => ?_) _
    obtain ⟨cur, hc⟩ := own_type ho1 _ e'
    rw [hy1] at hc; simp at hc
  have HFW : Hid (Fr (fun x => x = y) w W) := by
    show Fr _ _ _
    rw [← hW]; exact (Fr.below (S := fun x => x = y) hb1).set (g := y) (.inl rfl) 6 _
  clear ho1 hb1 hy1
  go_wp2_with fail
  clear hW c6 f6
  refine (at_own _ _ _).mono ?_
  rintro e w2 ⟨v2, rfl, ho2, hb2⟩
  have HO2 : Hid (w2.ownsRow w.heap.size 250 2 v2 1 (mkL [(k, i)])) := own_le ho2 HFW.out.size
  have HY2 : Hid (w2.heap[y]? = some (.cells (yC K M C V vn vd (.slice a1 1 c1) cl) 185 (0, 0))) := by
    show _ = _
    rw [hb2.block y (Array.getElem?_eq_some_iff.1 HYW.out).1]; exact HYW.out
  have HOW2 : Hid (w2.ownsRow w.heap.size 250 2 (.slice a1 1 c1) 1 (mkL [(k, i)])) := own_below HOW.out hb2
  have HF2 : Hid (Fr (fun x => x = y) w w2) := HFW.out.thenBelow hb2
  clear ho2 hb2
  go_wp2
  go_ret
  exact ⟨_, _, rfl, HO2.out, HY2.out, HOW2.out, HF2.out⟩
/-- the Writer is broken -/
theorem YDid.broke {y : Nat} {S : Nat → Prop} {A : AW} {w w' : World} {p : Int × Int} {vn vd vb' : Value} (h : YI y S A w) (hy0 : ∃ vb, w.heap[y]? = some (.cells (yC A.K A.M A.C A.V vn vd vb A.cl) 185 (0, 0))) (hy : w'.heap[y]? = some (.cells (yC A.K A.M A.C A.V vn vd vb' A.cl) 185 (0, 0))) (ho : w'.ownsRow w.heap.size 250 2 vb' 1 (mkL [p])) (hf : Fr (fun x => x = y) w w') : YDid y S { A with br := some p } w w' := by
  obtain ⟨vn0, vd0, vb0, h1, h2, h3, h4, h5, h6, h7, h8⟩ := h.cells
  obtain ⟨vb, hy0⟩ := hy0
  rw [h1] at hy0
  have e : vn0 = vn ∧ vd0 = vd := by simp [yC] at hy0; exact ⟨hy0.1, hy0.2.1⟩
  obtain ⟨rfl, rfl⟩ := e
  have hS : ∀ j, S j → j ≠ y → w'.heap[j]? = w.heap[j]? := fun j hj hne => hf.old j (h.lt j hj) hne
  refine ⟨fun j => S j ∨ vb'.ownBlock = some j, ⟨.inl h.sy, ?_, vn0, vd0, vb', hy, ?_, ?_, own_le ho (Nat.zero_le _), fun q hq => .inl (h5 q hq), fun q hq => .inl (h6 q hq), fun q hq => .inr hq, h8⟩, ?_, hf.mono (fun j _ hj => by rw [hj]; exact h.sy)⟩
  · intro j hj
    rcases hj with hj | hj
    · exact Nat.lt_of_lt_of_le (h.lt j hj) hf.size
    · exact own_lt ho j hj
  · refine own_kept h2 (fun q hq => hS q (h5 q hq) (fun e => ?_))
    obtain ⟨cur, hc⟩ := own_type h2 q hq
    rw [e, h1] at hc; simp at hc
  · refine own_kept h3 (fun q hq => hS q (h6 q hq) (fun e => ?_))
    obtain ⟨cur, hc⟩ := own_type h3 q hq
    rw [e, h1] at hc; simp at hc
  · intro j hj
    rcases hj with hj | hj
    · exact .inl hj
    · exact .inr (own_ge ho j hj)
/-- a text of a row -/
theorem txt_cell {w : World} {B n c : Nat} {a : Option Addr} {l : List ByteArray} (h : w.ownsRow B 9 1 (.slice a n c) n (l.map fun x => .string x)) (i : Nat) (hi : i < l.length) : ∃ g, a = some ⟨g, 0, none⟩ ∧ g < w.heap.size ∧ w.cell? ⟨g, i, none⟩ = some (.string l[i]) := by
  have hn : l.length = n := by have := h.1; simpa using this
  rcases h.2 with ⟨_, h'⟩ | ⟨g, cap, cur, hv, hb, hh, _⟩
  · omega
  · obtain rfl : a = some ⟨g, 0, none⟩ := by simp at hv; exact hv.1
    have h1 := h.cellAt i (by omega)
    refine ⟨g, rfl, (Array.getElem?_eq_some_iff.1 hh).1, h1.trans ?_⟩
    simp [hi]
theorem total_any (l : List ByteArray) (a : Option Addr) (c B : Nat) (w : World) (h : w.ownsRow B 9 1 (.slice a l.length c) l.length (l.map fun x => .string x)) (hs : ∀ k, (((l.take k).map ByteArray.size).sum) ≤ 1000000) :
    Calls Tryz.prog 143 #[.slice a l.length c] w fun e w' => e = .returned (.int .i64 (((l.map ByteArray.size).sum : Nat) : Int)) ∧ w' = w := by
  have HC : Hid _ := fun i hi => txt_cell h i hi
  have HS : Hid _ := hs
  obtain ⟨n, hn⟩ : ∃ n, l.length = n := ⟨_, rfl⟩
  have HN : Hid _ := hn
  have hn2 : n ≤ maxLen := by
    rcases h.2 with ⟨_, h'⟩ | ⟨g, cap, cur, hv, hb, hh, h1, h2, _⟩
    · omega
    · omega
  unfold maxLen at hn2
  rw [hn]
  clear h hs hn
  go_enter Tryz.func143, Tryz.ntmps143
  go_wp2
  go_loop [3, 4] (fun sv iv => ∃ i : Nat, i ≤ n ∧ iv = .int .i64 i ∧ sv = .int .i64 (((l.take i).map ByteArray.size).sum : Nat)) (fun _ iv => n - (intOf iv).toNat)
  case atStart => exact ⟨0, by omega, rfl, by simp⟩
  case round =>
    obtain ⟨i, hi, rfl, rfl⟩ := hrel
    by_cases hlt : i < n
    · have hlt' : i < l.length := by rw [HN.out]; exact hlt
      obtain ⟨g, ha, hgl, c0⟩ := HC.out i hlt'
      subst ha
      have h1 := HS.out (i + 1)
      have ht : l.take (i + 1) = l.take i ++ [l[i]] := by rw [List.take_succ_eq_append_getElem hlt']
      have HT : Hid (((l.take (i + 1)).map ByteArray.size).sum = ((l.take i).map ByteArray.size).sum + l[i].size) := by show _ = _; rw [ht, List.map_append, List.sum_append]; simp
      rw [HT.out] at h1
      obtain ⟨t, htt⟩ : ∃ t, ((l.take i).map ByteArray.size).sum = t := ⟨_, rfl⟩
      obtain ⟨x, hx⟩ : ∃ x, l[i] = x := ⟨_, rfl⟩
      rw [htt] at HT h1 ⊢
      rw [hx] at HT h1 c0
      clear ht htt hx
      go_wp2
      go_round
      case rel => exact ⟨i + 1, by omega, by go_num, by rw [HT.out]; go_num⟩
      case measure => simp [intOf]; omega
    · have e : i = n := by omega
      subst e
      have ht : l.take i = l := List.take_of_length_le (by have := HN.out; omega)
      rw [ht]
      go_wp2
      go_ret
      exact ⟨rfl, rfl⟩
end Go.Proofs.YtadinjaocnlglaaGreatDoor
namespace Go.Proofs.YtadinjaocnlglaaGreatDoor
open Go.RowKit
set_option maxRecDepth 100000
set_option maxHeartbeats 1000000
theorem nmV_eq (l : List (ByteArray × ByteArray)) : nmV l = (l.map (·.1)).map fun x => .string x := by simp [nmV]
theorem daV_eq (l : List (ByteArray × ByteArray)) : daV l = (l.map (·.2)).map fun x => .string x := by simp [daV]
theorem nm_cell {w : World} {B n c : Nat} {a : Option Addr} {l : List (ByteArray × ByteArray)} (h : w.ownsRow B 9 1 (.slice a n c) n (nmV l)) (i : Nat) (hi : i < l.length) : ∃ g, a = some ⟨g, 0, none⟩ ∧ g < w.heap.size ∧ w.cell? ⟨g, i, none⟩ = some (.string l[i].1) := by
  rw [nmV_eq] at h
  obtain ⟨g, h1, h2, h3⟩ := txt_cell h i (by simpa using hi)
  exact ⟨g, h1, h2, by simpa using h3⟩
theorem da_cell {w : World} {B n c : Nat} {a : Option Addr} {l : List (ByteArray × ByteArray)} (h : w.ownsRow B 9 1 (.slice a n c) n (daV l)) (i : Nat) (hi : i < l.length) : ∃ g, a = some ⟨g, 0, none⟩ ∧ g < w.heap.size ∧ w.cell? ⟨g, i, none⟩ = some (.string l[i].2) := by
  rw [daV_eq] at h
  obtain ⟨g, h1, h2, h3⟩ := txt_cell h i (by simpa using hi)
  exact ⟨g, h1, h2, by simpa using h3⟩
theorem YI.open {y : Nat} {S : Nat → Prop} {A : AW} {w w' : World} (h : YI y S A w) (hb : Below w.heap.size w w') : YI y S A w' := h.kept hb.size (fun j hj => hb.block j (h.lt j hj))
theorem YDid.after {y : Nat} {S : Nat → Prop} {A : AW} {w w1 w2 : World} (hb : Below w.heap.size w w1) (h : YDid y S A w1 w2) : YDid y S A w w2 := by
  obtain ⟨S', h1, h2, h3⟩ := h
  refine ⟨S', h1, fun j hj => ?_, (Fr.below hb).trans' h3⟩
  rcases h2 j hj with h4 | h4
  · exact .inl h4
  · exact .inr (Nat.le_trans hb.size h4)
theorem YDid.then {y : Nat} {S : Nat → Prop} {A : AW} {w w1 w2 : World} (h : YDid y S A w w1) (hb : Below w1.heap.size w1 w2) : YDid y S A w w2 := by
  obtain ⟨S', h1, h2, h3⟩ := h
  exact ⟨S', h1.open hb, h2, h3.thenBelow hb⟩
theorem rstate_nil (y : Nat) (S : Nat → Prop) (A : AW) (w : World) (hI : YI y S A w) (hs : A.state = []) :
    Calls Tryz.prog 141 #[.pointer (some ⟨y, 0, none⟩)] w fun e w' => ∃ a k, e = .returned (.slice a 0 k) ∧ Below w.heap.size w w' := by
  refine (rstate_any y S A w hI).mono ?_
  rintro e w' ⟨v, rfl, ho, hb⟩
  rw [hs] at ho
  obtain ⟨a, k, rfl⟩ := own_shape ho
  exact ⟨a, k, rfl, hb⟩
theorem sum_take_le : ∀ (l : List Nat) (k : Nat), (l.take k).sum ≤ l.sum
  | [], k => by simp
  | x :: r, 0 => by simp
  | x :: r, k + 1 => by have := sum_take_le r k; simp; omega
theorem rtotal (A : AW) (a : Option Addr) (c : Nat) (w : World) (h : w.ownsRow 0 9 1 (.slice a A.n c) A.n (daV A.ob)) (ht : A.tot ≤ 1000000) :
    Calls Tryz.prog 143 #[.slice a A.n c] w fun e w' => e = .returned (.int .i64 A.tot) ∧ w' = w := by
  have hl : (A.ob.map (·.2)).length = A.n := by simp [AW.n]
  have h2 : w.ownsRow 0 9 1 (.slice a (A.ob.map (·.2)).length c) (A.ob.map (·.2)).length ((A.ob.map (·.2)).map fun x => .string x) := by rw [hl, ← daV_eq]; exact h
  have e : (((A.ob.map (·.2)).map ByteArray.size).sum) = A.tot := by simp [AW.tot, sumL, List.map_map, Function.comp_def]
  have := total_any (A.ob.map (·.2)) a c 0 w h2 (fun k => by rw [List.map_take]; exact Nat.le_trans (sum_take_le _ _) (by rw [e]; exact ht))
  rw [hl, e] at this
  exact this
end Go.Proofs.YtadinjaocnlglaaGreatDoor
namespace Go.Proofs.YtadinjaocnlglaaGreatDoor
open Go.RowKit
set_option maxRecDepth 100000
set_option maxHeartbeats 2000000
theorem flat_len : ∀ X : List En, (flat X).length = X.length * 5
  | [] => rfl
  | e :: X => by rw [flat, List.flatMap_cons, List.length_append]; have := flat_len X; rw [flat] at this; rw [this]; simp [En.vals]; omega
theorem flat_get : ∀ (X : List En) (i f : Nat) (h : i < X.length), f < 5 → (flat X)[i * 5 + f]? = X[i].vals[f]?
  | [], i, f, h, _ => by simp at h
  | e :: X, 0, f, _, hf => by
    rw [flat, List.flatMap_cons, List.getElem?_append_left (by simp [En.vals]; omega)]; simp
  | e :: X, i + 1, f, h, hf => by
    have hl : e.vals.length = 5 := rfl
    rw [flat, List.flatMap_cons, List.getElem?_append_right (by rw [hl]; omega), hl, show (i + 1) * 5 + f - 5 = i * 5 + f by omega]
    exact flat_get X i f (by simpa using h) hf
theorem own_flat {w : World} {base c : Nat} {a : Option Addr} {X : List En} (h : w.ownsRow base 191 5 (.slice a X.length c) X.length (flat X)) (i : Nat) (hi : i < X.length) : ∃ g, a = some ⟨g, 0, none⟩ ∧ g < w.heap.size ∧ ∀ f, (hf : f < 5) → w.cell? ⟨g, i * 5 + f, none⟩ = (X[i].vals)[f]? := by
  rcases h.2 with ⟨_, h'⟩ | ⟨g, cap, cur, hv, hb, hh, _⟩
  · omega
  · obtain rfl : a = some ⟨g, 0, none⟩ := by simp at hv; exact hv.1
    refine ⟨g, rfl, (Array.getElem?_eq_some_iff.1 hh).1, fun f hf => ?_⟩
    rw [h.cellAt (i * 5 + f) (by omega), flat_get X i f hi hf]
theorem looks_any (l0 lo : Value) (X : List En) (B base : Nat) (n v : Value) (w : World)
    (hB : w.heap[B]? = some (.cells #[l0, n, v, .slice none 0 0, .slice none 0 0, .slice none 0 0, lo] 34 (0, 0)))
    (hXl : X.length ≤ 1000000000) (hv : w.ownsRow base 191 5 v X.length (flat X)) (hX : ∀ e ∈ X, e.ok w) :
    Calls Tryz.prog 52 #[.pointer (some ⟨B, 1, none⟩)] w fun e w' => e = .returned (.bool true) ∧ Below w.heap.size w w' := by
  have HB : Hid (w.heap[B]? = some (.cells #[l0, n, v, .slice none 0 0, .slice none 0 0, .slice none 0 0, lo] 34 (0, 0))) := hB
  have HV : Hid _ := hv
  have HX : Hid (∀ e ∈ X, e.ok w) := hX
  have hBl : B < w.heap.size := (Array.getElem?_eq_some_iff.1 hB).1
  obtain ⟨a, c, hs⟩ := own_shape hv
  subst hs
  clear hB hv hX
  go_enter Tryz.func52, Tryz.ntmps52
  go_wp2
  go_loopw [3] (fun iv wr => ∃ i : Nat, i ≤ X.length ∧ iv = .int .i64 i ∧ Below w.heap.size w wr) (fun iv _ => X.length - (intOf iv).toNat)
  case atStart => exact ⟨0, by omega, rfl, Below.refl _ _⟩
  case round =>
    obtain ⟨i, hi, rfl, hb⟩ := hrel
    have hBr : wr.heap[B]? = some (.cells #[l0, n, .slice a X.length c, .slice none 0 0, .slice none 0 0, .slice none 0 0, lo] 34 (0, 0)) := by rw [hb.block B hBl]; exact HB.out
    have o1 : wr.cell? ⟨B, 2, none⟩ = some (.slice a X.length c) := cell_of_row _ _ _ _ 34 _ hBr
    by_cases hlt : i < X.length
    · obtain ⟨g, ha, hgl, hc⟩ := own_flat HV.out i hlt
      subst ha
      obtain ⟨e, he⟩ : ∃ e, X[i] = e := ⟨_, rfl⟩
      have hok : e.ok wr := (HX.out e (by rw [← he]; exact List.getElem_mem hlt)).kp (Kp.below hb)
      rw [he] at hc
      obtain ⟨el, ea, eb, ec, em⟩ := e
      obtain ⟨f1, f2, f3, f4⟩ := hok
      have F1 : Hid (Full wr el em) := f1
      have F2 : Hid (Full wr ea em) := f2
      have F3 : Hid (Full wr eb em) := f3
      have F4 : Hid (Full wr ec em) := f4
      obtain ⟨l1, l2, l3, hl, _⟩ := f1
      subst hl
      obtain ⟨m1, m2, m3, hm, _⟩ := f2
      subst hm
      obtain ⟨p1, p2, p3, hp, _⟩ := f3
      subst hp
      obtain ⟨q1, q2, q3, hq, _⟩ := f4
      subst hq
      have c0 : wr.cell? ⟨g, i * 5, none⟩ = some (.slice l1 l2 l3) := (hb.cell (p := ⟨g, i * 5, none⟩) hgl).trans (hc 0 (by omega))
      have c1 : wr.cell? ⟨g, i * 5 + 1, none⟩ = some (.slice m1 m2 m3) := (hb.cell (p := ⟨g, i * 5 + 1, none⟩) hgl).trans (hc 1 (by omega))
      have c2 : wr.cell? ⟨g, i * 5 + 2, none⟩ = some (.slice p1 p2 p3) := (hb.cell (p := ⟨g, i * 5 + 2, none⟩) hgl).trans (hc 2 (by omega))
      have c3 : wr.cell? ⟨g, i * 5 + 3, none⟩ = some (.slice q1 q2 q3) := (hb.cell (p := ⟨g, i * 5 + 3, none⟩) hgl).trans (hc 3 (by omega))
      have c4 : wr.cell? ⟨g, i * 5 + 4, none⟩ = some (.string em) := (hb.cell (p := ⟨g, i * 5 + 4, none⟩) hgl).trans (hc 4 (by omega))
      have hi0 : (0 : Int) ≤ (i : Int) := by omega
      have hin : (i : Int) < (X.length : Int) := by omega
      have HBB : Hid _ := hb
      clear hc hb he hBr
      go_wp2_with fail
      have hrow : (wr.alloc (Obj.cells #[Value.slice l1 l2 l3, Value.slice m1 m2 m3, Value.slice p1 p2 p3, Value.slice q1 q2 q3, Value.string em] 191)).heap[wr.heap.size]? = some (.cells #[Value.slice l1 l2 l3, Value.slice m1 m2 m3, Value.slice p1 p2 p3, Value.slice q1 q2 q3, Value.string em] 191 (0, 0)) := heap_alloc_new _ _
      obtain ⟨w1, hw1⟩ : ∃ w1, w1 = wr.alloc (Obj.cells #[Value.slice l1 l2 l3, Value.slice m1 m2 m3, Value.slice p1 p2 p3, Value.slice q1 q2 q3, Value.string em] 191) := ⟨_, rfl⟩
      have HB1 : Hid (Below wr.heap.size wr w1) := by show Below wr.heap.size wr w1; rw [hw1]; exact (Below.refl _ _).alloc (Nat.le_refl _) _
      rw [← hw1] at hrow ⊢
      clear hw1 c0 c1 c2 c3 c4 o1
      obtain ⟨x, hx⟩ : ∃ x, x = wr.heap.size := ⟨_, rfl⟩
      rw [← hx] at hrow ⊢
      have HXX : Hid _ := hx
      have G1 : Hid (Full w1 (.slice l1 l2 l3) em) := Full.kp F1.out (Kp.below HB1.out)
      have G2 : Hid (Full w1 (.slice m1 m2 m3) em) := Full.kp F2.out (Kp.below HB1.out)
      have G3 : Hid (Full w1 (.slice p1 p2 p3) em) := Full.kp F3.out (Kp.below HB1.out)
      have G4 : Hid (Full w1 (.slice q1 q2 q3) em) := Full.kp F4.out (Kp.below HB1.out)
      have HR : Hid (w1.heap[x]? = some (.cells #[Value.slice l1 l2 l3, Value.slice m1 m2 m3, Value.slice p1 p2 p3, Value.slice q1 q2 q3, Value.string em] 191 (0, 0))) := hrow
      clear hx hrow F1 F2 F3 F4
      refine (full_any _ _ _ G1.out).mono ?_
      rintro e' w2 ⟨rfl, y1, hy1⟩
      have G2x : Hid (Full w2 (.slice m1 m2 m3) em) := by show Full w2 _ em; rw [hy1]; exact Full.kp G2.out (fun _ _ _ _ _ h => h)
      have G3x : Hid (Full w2 (.slice p1 p2 p3) em) := by show Full w2 _ em; rw [hy1]; exact Full.kp G3.out (fun _ _ _ _ _ h => h)
      have G4x : Hid (Full w2 (.slice q1 q2 q3) em) := by show Full w2 _ em; rw [hy1]; exact Full.kp G4.out (fun _ _ _ _ _ h => h)
      have HR' : Hid (w2.heap[x]? = some (.cells #[Value.slice l1 l2 l3, Value.slice m1 m2 m3, Value.slice p1 p2 p3, Value.slice q1 q2 q3, Value.string em] 191 (0, 0))) := by show w2.heap[x]? = _; rw [hy1]; exact HR.out
      have HB2 : Hid (Below wr.heap.size wr w2) := by show Below wr.heap.size wr w2; rw [hy1]; exact below_drewN HB1.out y1
      clear hy1 HR
      have HR : Hid _ := HR'.out
      clear HR'
      have r0 : w2.cell? ⟨x, 0, none⟩ = some (.slice l1 l2 l3) := cell_of_row _ _ _ _ 191 _ HR.out
      have r1 : w2.cell? ⟨x, 1, none⟩ = some (.slice m1 m2 m3) := cell_of_row _ _ _ _ 191 _ HR.out
      have r2 : w2.cell? ⟨x, 2, none⟩ = some (.slice p1 p2 p3) := cell_of_row _ _ _ _ 191 _ HR.out
      have r3 : w2.cell? ⟨x, 3, none⟩ = some (.slice q1 q2 q3) := cell_of_row _ _ _ _ 191 _ HR.out
      have r4 : w2.cell? ⟨x, 4, none⟩ = some (.string em) := cell_of_row _ _ _ _ 191 _ HR.out
      have G2 : Hid _ := G2x.out
      clear G2x
      have G3 : Hid _ := G3x.out
      clear G3x
      have G4 : Hid _ := G4x.out
      clear G4x
      go_wp2_with fail
      refine (full_any _ _ _ G2.out).mono ?_
      rintro e' w3 ⟨rfl, y2, hy2⟩
      have G3x : Hid (Full w3 (.slice p1 p2 p3) em) := by show Full w3 _ em; rw [hy2]; exact Full.kp G3.out (fun _ _ _ _ _ h => h)
      have G4x : Hid (Full w3 (.slice q1 q2 q3) em) := by show Full w3 _ em; rw [hy2]; exact Full.kp G4.out (fun _ _ _ _ _ h => h)
      have HR' : Hid (w3.heap[x]? = some (.cells #[Value.slice l1 l2 l3, Value.slice m1 m2 m3, Value.slice p1 p2 p3, Value.slice q1 q2 q3, Value.string em] 191 (0, 0))) := by show w3.heap[x]? = _; rw [hy2]; exact HR.out
      have HB3 : Hid (Below wr.heap.size wr w3) := by show Below wr.heap.size wr w3; rw [hy2]; exact below_drewN HB2.out y2
      clear hy2 HR r0 r1 r2 r3 r4
      have HR : Hid _ := HR'.out
      clear HR'
      have r0 : w3.cell? ⟨x, 0, none⟩ = some (.slice l1 l2 l3) := cell_of_row _ _ _ _ 191 _ HR.out
      have r1 : w3.cell? ⟨x, 1, none⟩ = some (.slice m1 m2 m3) := cell_of_row _ _ _ _ 191 _ HR.out
      have r2 : w3.cell? ⟨x, 2, none⟩ = some (.slice p1 p2 p3) := cell_of_row _ _ _ _ 191 _ HR.out
      have r3 : w3.cell? ⟨x, 3, none⟩ = some (.slice q1 q2 q3) := cell_of_row _ _ _ _ 191 _ HR.out
      have r4 : w3.cell? ⟨x, 4, none⟩ = some (.string em) := cell_of_row _ _ _ _ 191 _ HR.out
      have G3 : Hid _ := G3x.out
      clear G3x
      have G4 : Hid _ := G4x.out
      clear G4x
      go_wp2_with fail
      refine (full_any _ _ _ G3.out).mono ?_
      rintro e' w4 ⟨rfl, y3, hy3⟩
      have G4x : Hid (Full w4 (.slice q1 q2 q3) em) := by show Full w4 _ em; rw [hy3]; exact Full.kp G4.out (fun _ _ _ _ _ h => h)
      have HR' : Hid (w4.heap[x]? = some (.cells #[Value.slice l1 l2 l3, Value.slice m1 m2 m3, Value.slice p1 p2 p3, Value.slice q1 q2 q3, Value.string em] 191 (0, 0))) := by show w4.heap[x]? = _; rw [hy3]; exact HR.out
      have HB4 : Hid (Below wr.heap.size wr w4) := by show Below wr.heap.size wr w4; rw [hy3]; exact below_drewN HB3.out y3
      clear hy3 HR r0 r1 r2 r3 r4
      have HR : Hid _ := HR'.out
      clear HR'
      have r0 : w4.cell? ⟨x, 0, none⟩ = some (.slice l1 l2 l3) := cell_of_row _ _ _ _ 191 _ HR.out
      have r1 : w4.cell? ⟨x, 1, none⟩ = some (.slice m1 m2 m3) := cell_of_row _ _ _ _ 191 _ HR.out
      have r2 : w4.cell? ⟨x, 2, none⟩ = some (.slice p1 p2 p3) := cell_of_row _ _ _ _ 191 _ HR.out
      have r3 : w4.cell? ⟨x, 3, none⟩ = some (.slice q1 q2 q3) := cell_of_row _ _ _ _ 191 _ HR.out
      have r4 : w4.cell? ⟨x, 4, none⟩ = some (.string em) := cell_of_row _ _ _ _ 191 _ HR.out
      have G4 : Hid _ := G4x.out
      clear G4x
      go_wp2_with fail
      refine (full_any _ _ _ G4.out).mono ?_
      rintro e' w5 ⟨rfl, y4, hy4⟩
      have HR' : Hid (w5.heap[x]? = some (.cells #[Value.slice l1 l2 l3, Value.slice m1 m2 m3, Value.slice p1 p2 p3, Value.slice q1 q2 q3, Value.string em] 191 (0, 0))) := by show w5.heap[x]? = _; rw [hy4]; exact HR.out
      have HB5 : Hid (Below wr.heap.size wr w5) := by show Below wr.heap.size wr w5; rw [hy4]; exact below_drewN HB4.out y4
      clear hy4 HR r0 r1 r2 r3 r4
      have HR : Hid _ := HR'.out
      clear HR'
      have r0 : w5.cell? ⟨x, 0, none⟩ = some (.slice l1 l2 l3) := cell_of_row _ _ _ _ 191 _ HR.out
      have r1 : w5.cell? ⟨x, 1, none⟩ = some (.slice m1 m2 m3) := cell_of_row _ _ _ _ 191 _ HR.out
      have r2 : w5.cell? ⟨x, 2, none⟩ = some (.slice p1 p2 p3) := cell_of_row _ _ _ _ 191 _ HR.out
      have r3 : w5.cell? ⟨x, 3, none⟩ = some (.slice q1 q2 q3) := cell_of_row _ _ _ _ 191 _ HR.out
      have r4 : w5.cell? ⟨x, 4, none⟩ = some (.string em) := cell_of_row _ _ _ _ 191 _ HR.out
      have hbz : Below w.heap.size w w5 := HBB.out.trans (HB5.out.mono HBB.out.size)
      clear r0 r1 r2 r3 r4
      go_wp2
      go_roundw
      case rel => exact ⟨i + 1, by omega, by go_num, hbz⟩
      case measure => simp [intOf]; omega
    · have o2 : wr.cell? ⟨B, 3, none⟩ = some (.slice none 0 0) := cell_of_row _ _ _ _ 34 _ hBr
      have o3 : wr.cell? ⟨B, 4, none⟩ = some (.slice none 0 0) := cell_of_row _ _ _ _ 34 _ hBr
      have o4 : wr.cell? ⟨B, 5, none⟩ = some (.slice none 0 0) := cell_of_row _ _ _ _ 34 _ hBr
      clear hBr
      go_wp2
      refine wp_loop_rounds 1 ?_
      rw [rounds_succ]
      go_wp2
      refine wp_loop_rounds 1 ?_
      rw [rounds_succ]
      go_wp2
      refine wp_loop_rounds 1 ?_
      rw [rounds_succ]
      go_wp2
      go_ret
      exact ⟨rfl, hb⟩
end Go.Proofs.YtadinjaocnlglaaGreatDoor
