/-
  A book: what is done while one list is kept.
  A book: its lists, and what is left of it when one more is kept.
-/
import Derived.Test.YtadinjaocnlglaaGreatDoorZ39
namespace Go.Proofs.YtadinjaocnlglaaGreatDoor
open Go.RowKit
set_option maxRecDepth 100000
set_option maxHeartbeats 2000000
def Kz (t5 : Nat) (z : Option Nat) (W w : World) : Prop := ∀ (j : Nat) (cs : Array Value) (t : TypeId), W.heap[j]? = some (.cells cs t (0, 0)) → t ≠ 50 → t ≠ t5 → z ≠ some j → w.heap[j]? = some (.cells cs t (0, 0))
theorem Kz.refl (t5 : Nat) (z : Option Nat) (w : World) : Kz t5 z w w := fun _ _ _ h _ _ _ => h
theorem Kz.trans {t5 : Nat} {z : Option Nat} {a b c : World} (h : Kz t5 z a b) (h2 : Kz t5 z b c) : Kz t5 z a c := fun j cs t hj h50 h5 hz => h2 j cs t (h j cs t hj h50 h5 hz) h50 h5 hz
theorem Kz.below {t5 : Nat} {z : Option Nat} {w w' : World} (h : Below w.heap.size w w') : Kz t5 z w w' := fun j cs t hj _ _ _ => by rw [h.block j (Array.getElem?_eq_some_iff.1 hj).1]; exact hj
theorem Kz.set {t5 : Nat} {z : Option Nat} {w : World} {B : Nat} {c : Array Value} {t : TypeId} (h : w.heap[B]? = some (.cells c t (0, 0))) (ht : t = 50 ∨ t = t5) (i : Nat) (v : Value) : Kz t5 z w (w.setCell ⟨B, i, none⟩ v) := fun j cs t' hj h50 h5 _ => by
 rw [set_other _ _ _ _ _ (row_ne hj h (by rcases ht with e | e <;> rw [e] <;> assumption))]
 exact hj
theorem Kz.setz {t5 : Nat} {z w : World} {g : Nat} (h : Kz t5 (some g) z w) (i : Nat) (v : Value) : Kz t5 (some g) z (w.setCell ⟨g, i, none⟩ v) := fun j cs t hj h50 h5 hz => by
 rw [set_other _ _ _ _ _ (fun e => hz (by rw [e]))]
 exact h j cs t hj h50 h5 hz
theorem Kz.grown {t5 : Nat} {z : Option Nat} {w w' : World} (h : w.grownBy w' z) : Kz t5 z w w' := fun j cs t hj _ _ hz => by
 rw [h.block j (Array.getElem?_eq_some_iff.1 hj).1 (fun e => hz e.symm)]
 exact hj
structure FA (tE sz : Nat) (mk : List Value) (l : Value) (n k : Nat) (W w : World) (a : Value) : Prop where
 ful : FulG w tE sz mk a
 lt : ∀ q, a.ownBlock = some q → q < w.heap.size ∧ (l.ownBlock = some q ∨ W.heap.size ≤ q)
 len : a.ownBlock = l.ownBlock → ∃ x c k1, k1 ≤ k ∧ a = .slice x (n + k1) c
structure KA (base B x0 t5 tE sz : Nat) (mk : List Value) (l m : Value) (n : Nat) (rh : Array Value) (vX : Value) (X : List Ent) (a b c : Value) (k : Nat) (W w : World) : Prop where
 hall : w.heap[B]? = some (.cells rh 50 (0, 0))
 own : w.ownsRow base t5 5 vX X.length (flatG X)
 row : w.heap[x0]? = some (.cells #[l, a, b, c, m] t5 (0, 0))
 ne : vX.ownBlock ≠ some x0
 new : W.heap.size ≤ x0
 bw : base ≤ W.heap.size
 lo : w.ownsRow base tE sz l n (repG mk n)
 fa : FA tE sz mk l n k W w a
 fb : FA tE sz mk l n k W w b
 fc : FA tE sz mk l n k W w c
 kz : Kz t5 l.ownBlock W w
 bel : Below base W w
theorem own_arr (w : World) (arr : Array Value) (tE sz k : Nat) (mk : List Value) (h : arr.toList = repG mk k) (hm : mk.length = sz) (hk : k ≤ 1000) : (w.alloc (.cells arr tE)).ownsRow w.heap.size tE sz (.slice (some ⟨w.heap.size, 0, none⟩) k k) k (repG mk k) := by
 have hl : (repG mk k).length = k * sz := by rw [repG_len, hm]
 refine ⟨hl, .inr ⟨w.heap.size, k, arr, rfl, Nat.le_refl _, heap_alloc_new _ _, Nat.le_refl _, by unfold maxLen; omega, ?_, ?_⟩⟩
 ·rw [← hl, ← h]; simp
 ·rw [h, ← hl, List.take_length]
section
variable {base B x0 t5 tE sz tS bytes : Nat} {mk : List Value} {l m : Value} {n k : Nat} {rh : Array Value} {vX : Value} {X : List Ent} {a b c : Value} {W w : World} {i : TypeInfo} {z : Value}
theorem FA.low (h : FA tE sz mk l n k W w a) {w' : World} (hb : Below w.heap.size w w') : FA tE sz mk l n k W w' a :=
 ⟨h.ful.kept (fun q _ hq _ => hb.block q (h.lt q hq).1), fun q hq => ⟨Nat.lt_of_lt_of_le (h.lt q hq).1 hb.size, (h.lt q hq).2⟩, h.len⟩
theorem FA.other (h : FA tE sz mk l n k W w a) {x : Nat} {cs : Array Value} (hx : w.heap[x]? = some (.cells cs t5 (0, 0))) (ht : tE ≠ t5) (j : Nat) (v : Value) : FA tE sz mk l n k W (w.setCell ⟨x, j, none⟩ v) a :=
 ⟨h.ful.kept (fun q cur _ hc => set_other _ _ _ _ _ (row_ne hc hx ht)), fun q hq => ⟨by rw [show (w.setCell ⟨x, j, none⟩ v).heap.size = w.heap.size by simp [World.setCell]]; exact (h.lt q hq).1, (h.lt q hq).2⟩, h.len⟩
theorem FA.nil (hl : l.ownBlock = none → n = 0) : FA tE sz mk l n k W w (.slice none 0 0) :=
 ⟨⟨none, 0, 0, rfl, by omega, .inl rfl⟩, fun q hq => (by cases hq), fun e => ⟨none, 0, 0, by omega, by rw [hl e.symm]⟩⟩
theorem KA.app (H : KA base B x0 t5 tE sz mk l m n rh vX X a b c k W w) (ht : Tryz.prog.underlying tS = some (.slice tE)) (hi : Tryz.prog.info? tE = some i) (hz : i.zero = some z) (hs : i.size = sz) (hb : i.bytes = bytes) (hzs : z.cells.size = sz) (hs0 : 0 < sz) (hm : mk.length = sz) (h1 : ∀ u ∈ mk, u.oneCell' = true) (h5 : tE ≠ t5) (h50 : tE ≠ 50) (h55 : t5 ≠ 50) (hn : n ≤ 1000000000) (hby : bytes ≤ 100) {k' : Nat} (hk : k < k') (hk3 : k' ≤ 3) (arr : Array Value) (harr : arr.toList = repG mk k') :
  ∃ v' w2, (Builtin.append_ #[tS, tS] tS #[l, .slice (some ⟨w.heap.size, 0, none⟩) k' k']).run Tryz.prog (w.alloc (.cells arr tE)) = .ok v' w2 ∧ w2.heap[x0]? = some (.cells #[l, a, b, c, m] t5 (0, 0)) ∧ (∃ x d, v' = .slice x (n + k') d) ∧
   KA base B x0 t5 tE sz mk l m n rh vX X v' b c k' W (w2.setCell ⟨x0, 1, none⟩ v') ∧ KA base B x0 t5 tE sz mk l m n rh vX X a v' c k' W (w2.setCell ⟨x0, 2, none⟩ v') ∧ KA base B x0 t5 tE sz mk l m n rh vX X a b v' k' W (w2.setCell ⟨x0, 3, none⟩ v') := by
 have hB0 : Below w.heap.size w (w.alloc (.cells arr tE)) := (Below.refl _ _).alloc (Nat.le_refl _) _
 have hbase : base ≤ w.heap.size := Nat.le_trans H.bw H.bel.size
 have hnb : (n + k') * bytes ≤ 140737488355328 := by
  have : (n + k') * bytes ≤ (n + k') * 100 := Nat.mul_le_mul_left _ hby
  omega
 have hl1 : (w.alloc (.cells arr tE)).ownsRow base tE sz l n (repG mk n) := own_kept H.lo (fun q hq => hB0.block q (own_lt H.lo q hq))
 obtain ⟨v', w2, hrun, ho, hg, hl2, halt⟩ := app_two tS ht hi hz hs hb hzs hs0 hl1 (own_arr w arr tE sz k' mk harr hm (by omega)) (repG_one mk h1 k') (by omega) hnb (by omega) (Nat.le_trans hbase hB0.size)
 rw [← repG_add] at ho
 have hold : ∀ (j : Nat) (cs : Array Value) (t : TypeId), w.heap[j]? = some (.cells cs t (0, 0)) → t ≠ tE → w2.heap[j]? = some (.cells cs t (0, 0)) := fun j cs t hj htt => by
  have hjl := (Array.getElem?_eq_some_iff.1 hj).1
  rw [hg.block j (Nat.lt_of_lt_of_le hjl hB0.size) (fun e => by
   obtain ⟨cur, hcur⟩ := own_type H.lo j e.symm
   exact row_ne hj hcur htt rfl), hB0.block j hjl]
  exact hj
 have hrow := hold _ _ _ H.row h5.symm
 have hhall := hold _ _ _ H.hall h50.symm
 have hown : w2.ownsRow base t5 5 vX X.length (flatG X) := own_kept' H.own (fun j cs _ hj => hold j cs t5 hj h5.symm)
 have hsz : ∀ f v, (w2.setCell ⟨x0, f, none⟩ v).heap.size = w2.heap.size := fun f v => by simp [World.setCell]
 have hnew : ∀ q, v'.ownBlock = some q → q < w2.heap.size ∧ (l.ownBlock = some q ∨ W.heap.size ≤ q) := fun q hq => by
  refine ⟨own_lt ho q hq, ?_⟩
  rcases halt with e | ⟨e, _⟩
  ·exact .inl (by rw [← e]; exact hq)
  ·right
   rw [e] at hq
   have e2 : (w.alloc (.cells arr tE)).heap.size = q := by simpa using hq
   have e3 := hB0.size
   have e4 := H.bel.size
   omega
 have hfv : FA tE sz mk l n k' W w2 v' := ⟨own_ful ho hm (by omega), hnew, fun _ => by
  obtain ⟨x, d, e⟩ := own_shape ho
  exact ⟨x, d, k', Nat.le_refl _, e⟩⟩
 have hfo : ∀ y, FA tE sz mk l n k W w y → FA tE sz mk l n k' W w2 y := fun y hy => by
  have hy1 := hy.low hB0
  refine ⟨?_, fun q hq => ⟨Nat.lt_of_lt_of_le (hy1.lt q hq).1 hg.size, (hy1.lt q hq).2⟩, fun e => ?_⟩
  ·by_cases e : y.ownBlock = l.ownBlock
   ·obtain ⟨x, d, k1, hk1, e1⟩ := hy.len e
    exact FulG.after (k1 := k1) hm hy1.ful (fun q hq => (hy1.lt q hq).1) (fun _ => ⟨x, d, e1⟩) (by omega) ho hg halt (by omega)
   ·exact FulG.after (k1 := 0) hm hy1.ful (fun q hq => (hy1.lt q hq).1) (fun e2 => absurd e2 e) (by omega) ho hg halt (by omega)
  ·obtain ⟨x, d, k1, hk1, e1⟩ := hy.len e
   exact ⟨x, d, k1, by omega, e1⟩
 have hkz : Kz t5 l.ownBlock W w2 := (H.kz.trans (Kz.below hB0)).trans (Kz.grown hg)
 have hbel : Below base W w2 := (H.bel.trans (hB0.mono hbase)).grown hg (Nat.le_trans hbase hB0.size) (fun q hq => own_ge H.lo q hq)
 have hx0 : base ≤ x0 := Nat.le_trans H.bw H.new
 have hrest : ∀ (f : Nat) (row : Array Value), #[l, a, b, c, m].setIfInBounds f v' = row → (w2.setCell ⟨x0, f, none⟩ v').heap[B]? = some (.cells rh 50 (0, 0)) ∧ (w2.setCell ⟨x0, f, none⟩ v').ownsRow base t5 5 vX X.length (flatG X) ∧ (w2.setCell ⟨x0, f, none⟩ v').heap[x0]? = some (.cells row t5 (0, 0)) ∧ (w2.setCell ⟨x0, f, none⟩ v').ownsRow base tE sz l n (repG mk n) ∧ Kz t5 l.ownBlock W (w2.setCell ⟨x0, f, none⟩ v') ∧ Below base W (w2.setCell ⟨x0, f, none⟩ v') := fun f row e => by
  have hB50 : B ≠ x0 := row_ne hhall hrow h55.symm
  refine ⟨by rw [set_other _ _ _ _ _ hB50]; exact hhall, own_kept hown (fun q hq => set_other _ _ _ _ _ (fun e => H.ne (by rw [← e]; exact hq))), by rw [← e]; exact set_heap _ _ _ _ _ _ _ hrow, own_kept hl2 (fun q hq => ?_), hkz.trans (Kz.set hrow (.inr rfl) _ _), hbel.setCell (p := ⟨x0, f, none⟩) hx0 _⟩
  obtain ⟨cur, hcur⟩ := own_type hl2 q hq
  exact set_other _ _ _ _ _ (row_ne hcur hrow h5)
 refine ⟨v', w2, hrun, hrow, own_shape ho, ?_, ?_, ?_⟩
 ·obtain ⟨r1, r2, r3, r4, r5, r6⟩ := hrest 1 #[l, v', b, c, m] rfl
  exact ⟨r1, r2, r3, H.ne, H.new, H.bw, r4, hfv.other hrow h5 _ _, (hfo _ H.fb).other hrow h5 _ _, (hfo _ H.fc).other hrow h5 _ _, r5, r6⟩
 ·obtain ⟨r1, r2, r3, r4, r5, r6⟩ := hrest 2 #[l, a, v', c, m] rfl
  exact ⟨r1, r2, r3, H.ne, H.new, H.bw, r4, (hfo _ H.fa).other hrow h5 _ _, hfv.other hrow h5 _ _, (hfo _ H.fc).other hrow h5 _ _, r5, r6⟩
 ·obtain ⟨r1, r2, r3, r4, r5, r6⟩ := hrest 3 #[l, a, b, v', m] rfl
  exact ⟨r1, r2, r3, H.ne, H.new, H.bw, r4, (hfo _ H.fa).other hrow h5 _ _, (hfo _ H.fb).other hrow h5 _ _, hfv.other hrow h5 _ _, r5, r6⟩
end
theorem Kz.grown5 {t5 : Nat} {z row : Option Nat} {w w' : World} (h : w.grownBy w' row) (hr : ∀ q, row = some q → ∃ cs, w.heap[q]? = some (.cells cs t5 (0, 0))) : Kz t5 z w w' := fun j cs t hj _ h5 _ => by
 rw [h.block j (Array.getElem?_eq_some_iff.1 hj).1 (fun e => by
  obtain ⟨cs2, h2⟩ := hr j e.symm
  exact row_ne hj h2 h5 rfl)]
 exact hj
theorem own_putG {w : World} {B : Nat} {e : TypeId} {size : Nat} {g n cap p : Nat} {ys : List Value} (h : w.ownsRow B e size (.slice (some ⟨g, 0, none⟩) n cap) n ys) (hp : p < n * size) (u : Value) : (w.setCell ⟨g, p, none⟩ u).ownsRow B e size (.slice (some ⟨g, 0, none⟩) n cap) n (ys.set p u) ∧ w.frozen? ⟨g, p, none⟩ = false ∧ (∃ x, w.cell? ⟨g, p, none⟩ = some x) := by
 rcases h.2 with ⟨h1, _⟩ | ⟨g', cap', cur, h1, h2, h3, h4, h5, h6, h7⟩
 ·cases h1
 ·cases h1
  have hpc : p < cur.size := by
   have : n * size ≤ cap * size := Nat.mul_le_mul_right _ h4
   omega
  refine ⟨⟨by rw [List.length_set]; exact h.1, .inr ⟨g, cap, cur.setIfInBounds p u, rfl, h2, set_heap _ _ _ _ _ _ _ h3, h4, h5, by simpa using h6, ?_⟩⟩, frozen_of_row _ _ _ _ e h3, cur[p], ?_⟩
  ·rw [Array.toList_setIfInBounds, List.take_set, h7]
  ·rw [cell_of_row _ _ _ _ e _ h3, Array.getElem?_eq_getElem hpc]
theorem rep_set1 (m : Value) (xs : List Value) (i n : Nat) (hi : i < n) (hx : xs.length = n) : (repG [m] i ++ xs.drop i).set i m = repG [m] (i + 1) ++ xs.drop (i + 1) := by
 have hl : (repG [m] i).length = i := by rw [repG_len]; simp
 rw [List.set_append_right _ _ (by omega), hl, Nat.sub_self]
 obtain ⟨y, r, hy⟩ : ∃ y r, xs.drop i = y :: r := by
  cases hd : xs.drop i with
  | nil => have := congrArg List.length hd; rw [List.length_drop] at this; simp at this; omega
  | cons y r => exact ⟨y, r, rfl⟩
 have hr : xs.drop (i + 1) = r := by rw [← List.drop_drop, hy]; rfl
 rw [hy, hr, repG, List.append_assoc]
 rfl
theorem rep_set2 (m m2 : Value) (xs : List Value) (i n : Nat) (hi : i < n) (hx : xs.length = n * 2) : ((repG [m, m2] i ++ xs.drop (i * 2)).set (i * 2) m).set (i * 2 + 1) m2 = repG [m, m2] (i + 1) ++ xs.drop ((i + 1) * 2) := by
 have hl : (repG [m, m2] i).length = i * 2 := by rw [repG_len]; simp
 obtain ⟨y, y2, r, hy⟩ : ∃ y y2 r, xs.drop (i * 2) = y :: y2 :: r := by
  cases hd : xs.drop (i * 2) with
  | nil => have := congrArg List.length hd; rw [List.length_drop] at this; simp at this; omega
  | cons y r => cases r with
   | nil => have := congrArg List.length hd; rw [List.length_drop] at this; simp at this; omega
   | cons y2 r => exact ⟨y, y2, r, rfl⟩
 have hr : xs.drop ((i + 1) * 2) = r := by rw [show (i + 1) * 2 = i * 2 + 2 by omega, ← List.drop_drop, hy]; rfl
 rw [List.set_append_right _ _ (by omega), List.set_append_right _ _ (by omega), hl, Nat.sub_self, show i * 2 + 1 - i * 2 = 1 by omega, hy, hr, repG, List.append_assoc]
 rfl
section
variable {base B x0 t5 tE sz tS5 : Nat} {mk : List Value} {l m : Value} {n k : Nat} {rh : Array Value} {vX : Value} {X : List Ent} {a b c : Value} {W w : World} {i : TypeInfo} {z : Value}
theorem KA.start (hhall : w.heap[B]? = some (.cells rh 50 (0, 0))) (hown : w.ownsRow base t5 5 vX X.length (flatG X)) (hlo : w.ownsRow base tE sz l n (repG mk n)) (hkz : Kz t5 l.ownBlock W w) (hbel : Below base W w) (hbw : base ≤ W.heap.size) : KA base B w.heap.size t5 tE sz mk l m n rh vX X (.slice none 0 0) (.slice none 0 0) (.slice none 0 0) 0 W (w.alloc (.cells #[l, .slice none 0 0, .slice none 0 0, .slice none 0 0, m] t5)) := by
 have hB0 : Below w.heap.size w (w.alloc (.cells #[l, .slice none 0 0, .slice none 0 0, .slice none 0 0, m] t5)) := (Below.refl _ _).alloc (Nat.le_refl _) _
 have hnil : l.ownBlock = none → n = 0 := fun e => by
  rcases hlo.2 with ⟨_, h⟩ | ⟨g, cap, cur, h, _⟩
  ·exact h
  ·rw [h] at e; cases e
 exact ⟨by rw [hB0.block B (Array.getElem?_eq_some_iff.1 hhall).1]; exact hhall, own_kept hown (fun q hq => hB0.block q (own_lt hown q hq)), heap_alloc_new _ _, fun e => Nat.lt_irrefl _ (own_lt hown _ e), hbel.size, hbw, own_kept hlo (fun q hq => hB0.block q (own_lt hlo q hq)), FA.nil hnil, FA.nil hnil, FA.nil hnil, hkz.trans (Kz.below hB0), hbel.trans (hB0.mono (Nat.le_trans hbw hbel.size))⟩
theorem KA.fin (H : KA base B x0 t5 tE sz mk l m n rh vX X a b c k W w) (ht : Tryz.prog.underlying tS5 = some (.slice t5)) (hi : Tryz.prog.info? t5 = some i) (hz : i.zero = some z) (hs : i.size = 5) (hb : i.bytes ≤ 200) (hzs : z.cells.size = 5) (h1 : ∀ u ∈ [l, a, b, c, m], u.oneCell' = true) (h5 : tE ≠ t5) (h50 : tE ≠ 50) (h55 : t5 ≠ 50) (hX : X.length ≤ 100000000000) (hBb : base ≤ B) (fld : Nat) :
  ∃ v' w2, (Builtin.append_ #[tS5, tS5] tS5 #[vX, .slice (some ⟨w.heap.size, 0, none⟩) 1 1]).run Tryz.prog (w.alloc (.cells #[l, a, b, c, m] t5)).drew = .ok v' w2 ∧ (∃ x d, v' = .slice x (X.length + 1) d) ∧ w2.heap[B]? = some (.cells rh 50 (0, 0)) ∧
   (w2.setCell ⟨B, fld, none⟩ v').heap[B]? = some (.cells (rh.setIfInBounds fld v') 50 (0, 0)) ∧ (w2.setCell ⟨B, fld, none⟩ v').ownsRow base t5 5 v' (X.length + 1) (flatG (X ++ [⟨l, a, b, c, m⟩])) ∧
   (FulG (w2.setCell ⟨B, fld, none⟩ v') tE sz mk l → FulG (w2.setCell ⟨B, fld, none⟩ v') tE sz mk l) ∧ FulG (w2.setCell ⟨B, fld, none⟩ v') tE sz mk a ∧ FulG (w2.setCell ⟨B, fld, none⟩ v') tE sz mk b ∧ FulG (w2.setCell ⟨B, fld, none⟩ v') tE sz mk c ∧ (w2.setCell ⟨B, fld, none⟩ v').ownsRow base tE sz l n (repG mk n) ∧
   (∀ q, (⟨l, a, b, c, m⟩ : Ent).has q → l.ownBlock = some q ∨ W.heap.size ≤ q) ∧ (∀ q, (⟨l, a, b, c, m⟩ : Ent).has q → q < (w2.setCell ⟨B, fld, none⟩ v').heap.size) ∧ Kz t5 l.ownBlock W (w2.setCell ⟨B, fld, none⟩ v') ∧ Below base W (w2.setCell ⟨B, fld, none⟩ v') := by
 obtain ⟨w1, hw1⟩ : ∃ w1, (w.alloc (.cells #[l, a, b, c, m] t5)).drew = w1 := ⟨_, rfl⟩
 have hB0 : Below w.heap.size w w1 := by rw [← hw1]; exact ((Below.refl _ _).alloc (Nat.le_refl _) _).drew
 have hbase : base ≤ w.heap.size := Nat.le_trans H.bw H.bel.size
 have hnew : w1.ownsRow w.heap.size t5 5 (.slice (some ⟨w.heap.size, 0, none⟩) 1 1) 1 [l, a, b, c, m] := by
  rw [← hw1]
  exact ⟨rfl, .inr ⟨w.heap.size, 1, #[l, a, b, c, m], rfl, Nat.le_refl _, heap_alloc_new _ _, Nat.le_refl _, by unfold maxLen; omega, rfl, rfl⟩⟩
 have hv1 : w1.ownsRow base t5 5 vX X.length (flatG X) := own_kept H.own (fun q hq => hB0.block q (own_lt H.own q hq))
 have hbb : (X.length + 1) * i.bytes ≤ 140737488355328 := by
  have : (X.length + 1) * i.bytes ≤ (X.length + 1) * 200 := Nat.mul_le_mul_left _ hb
  omega
 rw [hw1]
 obtain ⟨v', w2, hrun, ho, hg, halt⟩ := app_rows tS5 ht hi hz hs rfl hzs (by decide) hv1 hnew h1 hbb (by omega) (Nat.le_trans hbase hB0.size)
 have hold : ∀ (j : Nat) (cs : Array Value) (t : TypeId), w.heap[j]? = some (.cells cs t (0, 0)) → t ≠ t5 → w2.heap[j]? = some (.cells cs t (0, 0)) := fun j cs t hj htt => by
  have hjl := (Array.getElem?_eq_some_iff.1 hj).1
  rw [hg.block j (Nat.lt_of_lt_of_le hjl hB0.size) (fun e => by
   obtain ⟨cur, hcur⟩ := own_type H.own j e.symm
   exact row_ne hj hcur htt rfl), hB0.block j hjl]
  exact hj
 have hhall := hold _ _ _ H.hall h55.symm
 have hset : ∀ (j : Nat) (cs : Array Value) (t : TypeId), w2.heap[j]? = some (.cells cs t (0, 0)) → t ≠ 50 → (w2.setCell ⟨B, fld, none⟩ v').heap[j]? = some (.cells cs t (0, 0)) := fun j cs t hj ht => by
  rw [set_other _ _ _ _ _ (row_ne hj hhall ht)]; exact hj
 have hful : ∀ y, FulG w tE sz mk y → FulG (w2.setCell ⟨B, fld, none⟩ v') tE sz mk y := fun y hy => hy.kept (fun q cur _ hc => by rw [hset _ _ _ (hold _ _ _ hc h5) h50, hc])
 have hsz : (w2.setCell ⟨B, fld, none⟩ v').heap.size = w2.heap.size := by simp [World.setCell]
 have hle : w.heap.size ≤ w2.heap.size := Nat.le_trans hB0.size hg.size
 refine ⟨v', w2, hrun, own_shape ho, hhall, set_heap _ _ _ _ _ _ _ hhall, ?_, fun h => h, hful _ H.fa.ful, hful _ H.fb.ful, hful _ H.fc.ful, own_kept' H.lo (fun j cs _ hj => hset _ _ _ (hold _ _ _ hj h5) h50), fun q hq => ?_, fun q hq => ?_, ?_, ?_⟩
 ·have e : flatG (X ++ [⟨l, a, b, c, m⟩]) = flatG X ++ [l, a, b, c, m] := by simp [flatG, Ent.vals]
  rw [e]
  exact own_kept' ho (fun j cs _ hj => hset j cs t5 hj h55)
 ·rcases hq with h | h | h | h
  ·exact .inl h
  ·exact (H.fa.lt q h).2
  ·exact (H.fb.lt q h).2
  ·exact (H.fc.lt q h).2
 ·rw [hsz]
  rcases hq with h | h | h | h
  ·exact Nat.lt_of_lt_of_le (own_lt H.lo q h) hle
  ·exact Nat.lt_of_lt_of_le (H.fa.lt q h).1 hle
  ·exact Nat.lt_of_lt_of_le (H.fb.lt q h).1 hle
  ·exact Nat.lt_of_lt_of_le (H.fc.lt q h).1 hle
 ·exact ((H.kz.trans (Kz.below hB0)).trans (Kz.grown5 hg (fun q hq => own_type hv1 q hq))).trans (Kz.set hhall (.inl rfl) _ _)
 ·exact ((H.bel.trans (hB0.mono hbase)).grown hg (Nat.le_trans hbase hB0.size) (fun q hq => own_ge H.own q hq)).setCell (p := ⟨B, fld, none⟩) hBb _
end
structure Bk where
 n : Nat
 T : List Ent
 I : List Ent
 O : List Ent
 E : List Ent
def mk1 (m : Value) : List Value := [m]
def mkO (m : Value) : List Value := [m, m]
def mkE (m : Value) : List Value := [m, .int .i64 0]
structure BkI (base B : Nat) (l0 lo : Value) (bk : Bk) (w : World) : Prop where
 row : ∃ vT vI vO vE, w.heap[B]? = some (.cells #[l0, .int .i64 bk.n, vT, vI, vO, vE, lo] 50 (0, 0)) ∧ w.ownsRow base 191 5 vT bk.T.length (flatG bk.T) ∧ w.ownsRow base 193 5 vI bk.I.length (flatG bk.I) ∧ w.ownsRow base 195 5 vO bk.O.length (flatG bk.O) ∧ w.ownsRow base 198 5 vE bk.E.length (flatG bk.E)
 T : ∀ e ∈ bk.T, e.ok w 9 1 mk1 ∧ (∃ s, e.m = .string s) ∧ ∀ q, e.has q → base ≤ q ∧ q < w.heap.size
 I : ∀ e ∈ bk.I, e.ok w 3 1 mk1 ∧ (∃ s, e.m = .int .i64 s) ∧ ∀ q, e.has q → base ≤ q ∧ q < w.heap.size
 O : ∀ e ∈ bk.O, e.ok w 72 2 mkO ∧ (∃ s, e.m = .string s) ∧ ∀ q, e.has q → base ≤ q ∧ q < w.heap.size
 E : ∀ e ∈ bk.E, e.ok w 70 2 mkE ∧ (∃ s, e.m = .string s) ∧ ∀ q, e.has q → base ≤ q ∧ q < w.heap.size
def Bk.has (bk : Bk) (q : Nat) : Prop := (∃ e ∈ bk.T, e.has q) ∨ (∃ e ∈ bk.I, e.has q) ∨ (∃ e ∈ bk.O, e.has q) ∨ ∃ e ∈ bk.E, e.has q
theorem BkI.lt {base B : Nat} {l0 lo : Value} {bk : Bk} {w : World} (h : BkI base B l0 lo bk w) {q : Nat} (hq : bk.has q) : base ≤ q ∧ q < w.heap.size := by
 rcases hq with ⟨e, he, hq⟩ | ⟨e, he, hq⟩ | ⟨e, he, hq⟩ | ⟨e, he, hq⟩
 ·exact (h.T e he).2.2 q hq
 ·exact (h.I e he).2.2 q hq
 ·exact (h.O e he).2.2 q hq
 ·exact (h.E e he).2.2 q hq
theorem BkI.kept {base B : Nat} {l0 lo : Value} {bk : Bk} {w w' : World} (h : BkI base B l0 lo bk w) (hsz : w.heap.size ≤ w'.heap.size) (ho : ∀ (j : Nat) (cs : Array Value) (t : TypeId), t = 50 ∨ t = 191 ∨ t = 193 ∨ t = 195 ∨ t = 198 → w.heap[j]? = some (.cells cs t (0, 0)) → w'.heap[j]? = some (.cells cs t (0, 0))) (hq : ∀ q, bk.has q → w'.heap[q]? = w.heap[q]?) : BkI base B l0 lo bk w' := by
 obtain ⟨vT, vI, vO, vE, h1, h2, h3, h4, h5⟩ := h.row
 refine ⟨⟨vT, vI, vO, vE, ho _ _ _ (by simp) h1, own_kept' h2 (fun j cs _ hj => ho j cs _ (by simp) hj), own_kept' h3 (fun j cs _ hj => ho j cs _ (by simp) hj), own_kept' h4 (fun j cs _ hj => ho j cs _ (by simp) hj), own_kept' h5 (fun j cs _ hj => ho j cs _ (by simp) hj)⟩, fun e he => ?_, fun e he => ?_, fun e he => ?_, fun e he => ?_⟩
 ·obtain ⟨a, b, c⟩ := h.T e he
  exact ⟨a.kept (fun q _ hq' _ => hq q (.inl ⟨e, he, hq'⟩)), b, fun q hq' => ⟨(c q hq').1, Nat.lt_of_lt_of_le (c q hq').2 hsz⟩⟩
 ·obtain ⟨a, b, c⟩ := h.I e he
  exact ⟨a.kept (fun q _ hq' _ => hq q (.inr (.inl ⟨e, he, hq'⟩))), b, fun q hq' => ⟨(c q hq').1, Nat.lt_of_lt_of_le (c q hq').2 hsz⟩⟩
 ·obtain ⟨a, b, c⟩ := h.O e he
  exact ⟨a.kept (fun q _ hq' _ => hq q (.inr (.inr (.inl ⟨e, he, hq'⟩)))), b, fun q hq' => ⟨(c q hq').1, Nat.lt_of_lt_of_le (c q hq').2 hsz⟩⟩
 ·obtain ⟨a, b, c⟩ := h.E e he
  exact ⟨a.kept (fun q _ hq' _ => hq q (.inr (.inr (.inr ⟨e, he, hq'⟩)))), b, fun q hq' => ⟨(c q hq').1, Nat.lt_of_lt_of_le (c q hq').2 hsz⟩⟩
theorem BkI.low {base B : Nat} {l0 lo : Value} {bk : Bk} {w w' : World} (h : BkI base B l0 lo bk w) (hb : Below w.heap.size w w') : BkI base B l0 lo bk w' :=
 h.kept hb.size (fun j cs t _ hj => by rw [hb.block j (Array.getElem?_eq_some_iff.1 hj).1]; exact hj) (fun q hq => hb.block q (h.lt hq).2)
end Go.Proofs.YtadinjaocnlglaaGreatDoor
