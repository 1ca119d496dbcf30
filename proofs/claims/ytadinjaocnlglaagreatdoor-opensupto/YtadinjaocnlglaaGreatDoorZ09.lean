/-
  What a head tells: the length of all data, the number of blocks.
  What is told ahead of the check, as data; once a field is wrong all is.
  Plain facts: rows of words in a block; the words of SHA-256 as functions on integers.
  The walks: turning, and the words of each round.
  The walk of digest.schedule.
  The walk of vaultref.turn.
  The walk of vaultref.words.
-/
import Derived.Test.YtadinjaocnlglaaGreatDoorZ08
import Derived.Test.YtadinjaocnlglaaGreatDoorZ04
import Derived.WalkKit
import Derived.Deep.Draws
import Derived.Test.YtadinjaocnlglaaGreatDoorProg
import Derived.WalkSpells
import Derived.WalkLawsBesides
import Derived.BigRegion
import Derived.BigQuiet
import Derived.Deep.QuietTactic
namespace Go.Proofs.YtadinjaocnlglaaGreatDoor
open Go.RowKit
set_option maxRecDepth 100000
set_option maxHeartbeats 4000000
def lenE (l : List (ByteArray × Nat)) : Nat := (l.map (·.2)).sum
theorem enV_at : ∀ (l : List (ByteArray × Nat)) (i : Nat) (h : i < l.length), (enV l)[i * 2]? = some (.string l[i].1) ∧ (enV l)[i * 2 + 1]? = some (.int .i64 l[i].2)
 | x :: r, 0, _ => by simp [enV]
 | x :: r, i + 1, h => by
  have := enV_at r i (by simpa using h)
  simpa [enV, Nat.succ_mul] using this
theorem en_cells {w : World} {B n c : Nat} {a : Option Addr} {l : List (ByteArray × Nat)} (hn : l.length = n) (h : w.ownsRow B 70 2 (.slice a n c) n (enV l)) (i : Nat) (hi : i < l.length) : ∃ g, a = some ⟨g, 0, none⟩ ∧ g < w.heap.size ∧ w.cell? ⟨g, i * 2, none⟩ = some (.string l[i].1) ∧ w.cell? ⟨g, i * 2 + 1, none⟩ = some (.int .i64 l[i].2) := by
 subst hn
 rcases h.2 with ⟨_, h'⟩ | ⟨g, cap, cur, hv, hb, hh, _⟩
 ·omega
 ·obtain rfl : a = some ⟨g, 0, none⟩ := by simp at hv; exact hv.1
  have h1 := h.cellAt (i * 2) (by omega)
  have h2 := h.cellAt (i * 2 + 1) (by omega)
  exact ⟨g, rfl, (Array.getElem?_eq_some_iff.1 hh).1, h1.trans (enV_at l i hi).1, h2.trans (enV_at l i hi).2⟩
theorem lenE_take : ∀ (l : List (ByteArray × Nat)) (i : Nat) (h : i < l.length), lenE (l.take (i + 1)) = lenE (l.take i) + l[i].2
 | x :: r, 0, _ => by simp [lenE]
 | x :: r, i + 1, h => by
  have := lenE_take r i (by simpa using h)
  simp only [lenE, List.take_succ_cons, List.map_cons, List.sum_cons, List.getElem_cons_succ] at this ⊢
  omega
theorem hlength (b B n c : Nat) (a : Option Addr) (es : List (ByteArray × Nat)) (w : World) (hc : w.cell? ⟨b, 6, none⟩ = some (.slice a n c)) (hn : es.length = n) (ho : w.ownsRow B 70 2 (.slice a n c) n (enV es)) (hs : ∀ i, lenE (es.take i) ≤ 1000000) (hn2 : n ≤ 1000) :
  Calls Tryz.prog 260 #[.pointer (some ⟨b, 0, none⟩)] w fun e w' => e = .returned (.int .i64 (lenE es)) ∧ Below w.heap.size w w' := by
 have HC : Hid _ := fun i hi => en_cells hn ho i hi
 have HS : Hid _ := hs
 have HN : Hid _ := hn
 clear ho hs hn
 go_enter Tryz.func260, Tryz.ntmps260
 go_wp2_with fail
 go_loopw [3, 5, 11] (fun sv _ iv wr => ∃ i : Nat, i ≤ n ∧ iv = .int .i64 i ∧ sv = .int .i64 (lenE (es.take i)) ∧ Below w.heap.size w wr) (fun _ _ iv _ => n - (intOf iv).toNat)
 case atStart => exact ⟨0, by omega, rfl, by simp [lenE], Below.refl _ _⟩
 case round =>
  obtain ⟨i, hi, rfl, rfl, hb⟩ := hrel
  have HB : Hid _ := hb
  by_cases hlt : i < n
  ·have hil : i < es.length := by rw [HN.out]; exact hlt
   obtain ⟨g, ha, hgl, x0, x1⟩ := HC.out i hil
   subst ha
   have y0 := (hb.cell (p := ⟨g, i * 2, none⟩) hgl).trans x0
   have y1 := (hb.cell (p := ⟨g, i * 2 + 1, none⟩) hgl).trans x1
   have HT : Hid _ := lenE_take es i hil
   have h1 := HS.out (i + 1)
   rw [HT.out] at h1
   obtain ⟨t, ht⟩ : ∃ t, lenE (es.take i) = t := ⟨_, rfl⟩
   obtain ⟨X, hX⟩ : ∃ X, es[i].1 = X := ⟨_, rfl⟩
   obtain ⟨y, hy⟩ : ∃ y, es[i].2 = y := ⟨_, rfl⟩
   rw [ht, hy] at HT h1
   rw [ht]
   rw [hX] at y0
   rw [hy] at y1
   have hin : (i : Int) < (n : Int) := by omega
   clear x0 x1 hb ht hX hy
   go_wp2
   go_roundw
   case rel => exact ⟨i + 1, by omega, by go_num, by rw [HT.out]; go_num, HB.out.alloc HB.out.size _⟩
   case measure => simp [intOf]; omega
  ·have ei : i = n := by omega
   subst ei
   have ht : es.take i = es := List.take_of_length_le (by rw [HN.out]; exact Nat.le_refl _)
   rw [ht]
   go_wp2
   go_ret
   exact ⟨rfl, HB.out⟩
theorem hcount (b B n c K M C V : Nat) (a : Option Addr) (es : List (ByteArray × Nat)) (w : World) (c2 : w.cell? ⟨b, 2, none⟩ = some (.int .i64 K)) (c3 : w.cell? ⟨b, 3, none⟩ = some (.int .i64 M)) (c4 : w.cell? ⟨b, 4, none⟩ = some (.int .i64 C)) (c5 : w.cell? ⟨b, 5, none⟩ = some (.int .i64 V))
  (hc : w.cell? ⟨b, 6, none⟩ = some (.slice a n c)) (hn : es.length = n) (ho : w.ownsRow B 70 2 (.slice a n c) n (enV es)) (hs : ∀ i, lenE (es.take i) ≤ 100000) (hn2 : n ≤ 1000) (hK : 1 ≤ K) (hKM : K + M ≤ 255) (hC : 1 ≤ C) (hC2 : C ≤ 64) :
  Calls Tryz.prog 252 #[.pointer (some ⟨b, 0, none⟩)] w fun e w' => e = .returned (.int .i64 (nst (K * C) (lenE es) * (K + M) : Nat)) ∧ Below w.heap.size w w' := by
 have hz0 : 0 < K * C := Nat.mul_pos hK hC
 have hz1 : K * C ≤ 100000 := Nat.le_trans (Nat.mul_le_mul (show K ≤ 255 by omega) hC2) (by omega)
 have hle : lenE es ≤ 100000 := by have := hs es.length; rw [List.take_length] at this; exact this
 have hbl : b < w.heap.size := block_lt_of_cell c2
 have H1 : Hid (∀ X : World, Below w.heap.size w X → Calls Tryz.prog 260 #[.pointer (some ⟨b, 0, none⟩)] X fun e w' => e = .returned (.int .i64 (lenE es)) ∧ Below X.heap.size X w') := fun X hX => hlength b B n c a es X ((hX.cell (p := ⟨b, 6, none⟩) hbl).trans hc) hn (own_below ho hX) (fun i => Nat.le_trans (hs i) (by omega)) hn2
 have H2 : Hid (∀ X : World, Calls Tryz.prog 154 #[.agg #[.int .i64 K, .int .i64 M, .int .i64 C, .int .i64 V], .int .i64 (lenE es)] X fun e w' => e = .returned (.int .i64 (nst (K * C) (lenE es) * (K + M) : Nat)) ∧ Below X.heap.size X w') := fun X => countBlocks_any K M C V (lenE es) (K * C) X rfl hz0 hz1 hle (by omega) (by omega)
 obtain ⟨cn, hcn⟩ : ∃ cn, nst (K * C) (lenE es) * (K + M) = cn := ⟨_, rfl⟩
 rw [hcn] at H2 ⊢
 clear hc hn ho hs
 go_enter Tryz.func252, Tryz.ntmps252
 go_wp2_with fail
 go_region_held3 (fun w2 => w2.cell? ⟨b, 2, none⟩ = some (.int .i64 K) ∧ w2.cell? ⟨b, 3, none⟩ = some (.int .i64 M) ∧ w2.cell? ⟨b, 4, none⟩ = some (.int .i64 C) ∧ w2.cell? ⟨b, 5, none⟩ = some (.int .i64 V)) (go_keep) (first | (go_at_call 260; refine Calls.mono (H1.out _ (by first | exact Below.refl _ _ | exact (Below.refl _ _).drew)) ?_; rintro e w1 ⟨rfl, hb1⟩; have hB1 : Below w.heap.size w w1 := (by first | exact hb1 | exact ((Below.refl _ _).drew).trans hb1); have q2 := (hB1.cell (p := ⟨b, 2, none⟩) hbl).trans c2; have q3 := (hB1.cell (p := ⟨b, 3, none⟩) hbl).trans c3; have q4 := (hB1.cell (p := ⟨b, 4, none⟩) hbl).trans c4; have q5 := (hB1.cell (p := ⟨b, 5, none⟩) hbl).trans c5) | (go_at_call 154; refine Calls.mono (H2.out _) ?_; rintro e w2 ⟨rfl, hb2⟩; have hB2 : Below w.heap.size w w2 := (hB1.trans (hb2.mono hB1.size)); have u2 := (hB2.cell (p := ⟨b, 2, none⟩) hbl).trans c2; have u3 := (hB2.cell (p := ⟨b, 3, none⟩) hbl).trans c3; have u4 := (hB2.cell (p := ⟨b, 4, none⟩) hbl).trans c4; have u5 := (hB2.cell (p := ⟨b, 5, none⟩) hbl).trans c5))
 have HB : Hid _ := hB2
 clear hB1 hB2 hb1 hb2 q2 q3 q4 q5 u2 u3 u4 u5
 go_wp2
 go_ret
 exact ⟨rfl, HB.out⟩
theorem num_ok {s : RS} {lo : Nat} {hi : Int} (h : (s.num lo hi).1.wrong = false) : s.wrong = false ∧ lo ≤ (s.num lo hi).2 ∧ ((s.num lo hi).2 : Int) ≤ hi := by
 unfold RS.num at h ⊢
 cases hw : s.wrong with
 | true => rw [hw] at h; simp only [if_true] at h; rw [hw] at h; cases h
 | false =>
  rw [hw] at h
  simp only [Bool.false_eq_true, if_false] at h ⊢
  split at h
  ·cases h
  ·rename_i hn
   rw [if_neg hn]
   simp only [not_or] at hn
   exact ⟨trivial, by show lo ≤ (vrd (s.text.extract s.next s.text.size)).1; omega, by show ((vrd (s.text.extract s.next s.text.size)).1 : Int) ≤ hi; omega⟩
theorem bytes_ok {s : RS} {n : Nat} (h : (s.bytes n).1.wrong = false) : s.wrong = false := by
 unfold RS.bytes at h
 cases hw : s.wrong with
 | true => rw [hw] at h; simp only [if_true] at h; rw [hw] at h; cases h
 | false => rfl
theorem word_ok {s : RS} {t : ByteArray} (h : (s.word t).wrong = false) : s.wrong = false := by
 unfold RS.word at h
 split at h
 ·exact bytes_ok h
 ·cases h
theorem entry_ok {s : RS} {b : ByteArray} {l : Int} (h : (s.entry b l).1.wrong = false) : s.wrong = false := by
 have h1 := (num_ok (show ((if leT ((s.num 1 255).1.bytes (s.num 1 255).2).2 b then ((s.num 1 255).1.bytes (s.num 1 255).2).1.refuse else ((s.num 1 255).1.bytes (s.num 1 255).2).1).num 0 l).1.wrong = false from h)).1
 split at h1
 ·cases h1
 ·exact (num_ok (bytes_ok h1)).1
theorem ents_ok : ∀ (k : Nat) (s : RS) (nm : ByteArray) (left : Int) (acc : List (ByteArray × Nat)), (RS.ents k s nm left acc).1.wrong = false → s.wrong = false
 | 0, _, _, _, _, h => h
 | k + 1, _, _, _, _, h => entry_ok (ents_ok k _ _ _ _ h)
theorem ents_len : ∀ (k : Nat) (s : RS) (nm : ByteArray) (left : Int) (acc : List (ByteArray × Nat)), (RS.ents k s nm left acc).2.length = acc.length + k
 | 0, s, nm, left, acc => rfl
 | k + 1, s, nm, left, acc => by
  rw [RS.ents, ents_len k]
  simp; omega
theorem lenE_app (l r : List (ByteArray × Nat)) : lenE (l ++ r) = lenE l + lenE r := by simp [lenE]
theorem ents_sum : ∀ (k : Nat) (s : RS) (nm : ByteArray) (left : Int) (acc : List (ByteArray × Nat)), 0 ≤ left → (lenE (RS.ents k s nm left acc).2 : Int) ≤ lenE acc + left
 | 0, s, nm, left, acc, h => by show (lenE acc : Int) ≤ _; omega
 | k + 1, s, nm, left, acc, h => by
  have h1 := entry_le s nm left h
  have h2 := ents_sum k (s.entry nm left).1 (s.entry nm left).2.1 (left - (s.entry nm left).2.2) (acc ++ [((s.entry nm left).2.1, (s.entry nm left).2.2)]) (by omega)
  rw [RS.ents]
  rw [lenE_app] at h2
  have h3 : lenE [((s.entry nm left).2.1, (s.entry nm left).2.2)] = (s.entry nm left).2.2 := by simp [lenE]
  rw [h3] at h2
  omega
theorem list_len (s : RS) : s.list.es.length ≤ 16 := by
 unfold RS.list
 show (RS.ents _ _ _ _ _).2.length ≤ 16
 rw [ents_len]
 have := num_hi ((((((s.word ⟨#[86, 76, 84, 49]⟩).num 1 255).1.num 0 (255 - (((s.word ⟨#[86, 76, 84, 49]⟩).num 1 255).2 : Int))).1.num 1 64).1.num 1 16).1) 0 16
 simp only [List.length_nil, Nat.zero_add]
 exact this
theorem list_sum (s : RS) : lenE s.list.es ≤ 4096 := by
 unfold RS.list
 have := ents_sum (((((((s.word ⟨#[86, 76, 84, 49]⟩).num 1 255).1.num 0 (255 - (((s.word ⟨#[86, 76, 84, 49]⟩).num 1 255).2 : Int))).1.num 1 64).1.num 1 16).1.num 0 16).2) (((((((s.word ⟨#[86, 76, 84, 49]⟩).num 1 255).1.num 0 (255 - (((s.word ⟨#[86, 76, 84, 49]⟩).num 1 255).2 : Int))).1.num 1 64).1.num 1 16).1.num 0 16).1) ⟨#[]⟩ 4096 [] (by omega)
 have h0 : lenE ([] : List (ByteArray × Nat)) = 0 := rfl
 rw [h0] at this
 show lenE (RS.ents _ _ _ _ _).2 ≤ 4096
 omega
theorem lenE_take_le (l : List (ByteArray × Nat)) (i : Nat) : lenE (l.take i) ≤ lenE l := by
 have h : lenE l = lenE (l.take i) + lenE (l.drop i) := by rw [← lenE_app, List.take_append_drop]
 omega
theorem list_ok {s : RS} (h : s.list.st.wrong = false) : s.wrong = false ∧ 1 ≤ s.list.K ∧ s.list.K + s.list.M ≤ 255 ∧ 1 ≤ s.list.C ∧ s.list.C ≤ 64 ∧ 1 ≤ s.list.V ∧ s.list.V ≤ 16 := by
 unfold RS.list at h ⊢
 simp only at h ⊢
 have h5 := num_ok (ents_ok _ _ _ _ _ h)
 have h4 := num_ok h5.1
 have h3 := num_ok h4.1
 have h2 := num_ok h3.1
 have h1 := num_ok h2.1
 have h0 := word_ok h1.1
 refine ⟨h0, h1.2.1, ?_, h3.2.1, ?_, h4.2.1, ?_⟩
 ·have := h2.2.2; omega
 ·have := h3.2.2; omega
 ·have := h4.2.2; omega
def Adv (s s' : RS) : Prop := s'.text = s.text ∧ s.next ≤ s'.next
theorem Adv.trans {a b c : RS} (h : Adv a b) (h2 : Adv b c) : Adv a c := ⟨h2.1.trans h.1, Nat.le_trans h.2 h2.2⟩
theorem num_adv (s : RS) (lo : Nat) (hi : Int) : Adv s (s.num lo hi).1 := by
 unfold RS.num
 split
 ·exact ⟨rfl, Nat.le_refl _⟩
 ·split
  ·exact ⟨rfl, Nat.le_refl _⟩
  ·exact ⟨rfl, Nat.le_add_right _ _⟩
theorem bytes_adv (s : RS) (n : Nat) : Adv s (s.bytes n).1 := by
 unfold RS.bytes
 split
 ·exact ⟨rfl, Nat.le_refl _⟩
 ·split
  ·exact ⟨rfl, Nat.le_refl _⟩
  ·exact ⟨rfl, Nat.le_add_right _ _⟩
theorem word_adv (s : RS) (t : ByteArray) : Adv s (s.word t) := by
 unfold RS.word
 split
 ·exact bytes_adv s _
 ·exact bytes_adv s _
theorem entry_adv (s : RS) (b : ByteArray) (l : Int) : Adv s (s.entry b l).1 := by
 have h1 : Adv s ((s.num 1 255).1.bytes (s.num 1 255).2).1 := (num_adv s 1 255).trans (bytes_adv _ _)
 have h2 : Adv s (if leT ((s.num 1 255).1.bytes (s.num 1 255).2).2 b then ((s.num 1 255).1.bytes (s.num 1 255).2).1.refuse else ((s.num 1 255).1.bytes (s.num 1 255).2).1) := by
  split
  ·exact h1
  ·exact h1
 exact h2.trans (num_adv _ 0 l)
theorem ents_adv : ∀ (k : Nat) (s : RS) (nm : ByteArray) (left : Int) (acc : List (ByteArray × Nat)), Adv s (RS.ents k s nm left acc).1
 | 0, _, _, _, _ => ⟨rfl, Nat.le_refl _⟩
 | k + 1, s, nm, left, _ => (entry_adv s nm left).trans (ents_adv k _ _ _ _)
theorem list_adv (s : RS) : Adv s s.list.st := by
 unfold RS.list
 exact (word_adv s _).trans ((num_adv _ _ _).trans ((num_adv _ _ _).trans ((num_adv _ _ _).trans ((num_adv _ _ _).trans ((num_adv _ _ _).trans (ents_adv _ _ _ _ _))))))
structure TT where
 st : RS
 root : ByteArray
 lst : ByteArray
 L : LT
 num : Nat
 lv : ByteArray
def LT.cnt (l : LT) : Nat := nst (l.K * l.C) (lenE l.es) * (l.K + l.M)
def RS.told (s : RS) : TT :=
 let s0 := s.word ⟨#[86, 79, 76, 49]⟩
 let a := s0.bytes 32
 let l := a.1.list
 let b := l.st.num 0 ((l.V : Int) - 1)
 let c := (if 512 < l.cnt then b.1.refuse else b.1).bytes (l.cnt * 32)
 if b.1.wrong then ⟨b.1, a.2, l.st.text.extract a.1.next l.st.next, l, b.2, ⟨#[]⟩⟩ else ⟨c.1, a.2, l.st.text.extract a.1.next l.st.next, l, b.2, c.2⟩
def row (n : Nat) (f : Nat → Int) : Array Value := Array.ofFn (n := n) fun i => Value.int .u32 (f i.val)
def upd (f : Nat → Int) (k : Nat) (v : Int) : Nat → Int := fun j => if j = k then v else f j
theorem row_size (n : Nat) (f : Nat → Int) : (row n f).size = n := by simp [row]
theorem row_get (n : Nat) (f : Nat → Int) (k : Nat) (h : k < n) : (row n f)[k]? = some (.int .u32 (f k)) := by
 simp [row, h]
theorem row_set (n : Nat) (f : Nat → Int) (k : Nat) (v : Int) : (row n f).setIfInBounds k (.int .u32 v) = row n (upd f k v) := by
 apply Array.ext_getElem?
 intro i
 rw [Array.getElem?_setIfInBounds, row_size]
 by_cases hi : i < n
 ·rw [row_get n f i hi, row_get n _ i hi]
  by_cases h : k = i
  ·subst h; simp [hi, upd]
  ·simp [h, upd, Ne.symm h]
 ·have e1 : (row n f)[i]? = none := by simp [row, hi]
  have e2 : (row n (upd f k v))[i]? = none := by simp [row, hi]
  rw [e1, e2]
  by_cases h : k = i
  ·subst h; simp [hi]
  ·simp [h]
theorem row_congr (n : Nat) (f g : Nat → Int) (h : ∀ j, j < n → f j = g j) : row n f = row n g := by
 apply Array.ext
 ·simp [row]
 ·intro i h1 h2
  simp only [row, Array.getElem_ofFn]
  rw [h i (by simpa [row] using h1)]
theorem row_ones (n : Nat) (f : Nat → Int) : (row n f).all (·.oneCell') = true := by
 rw [Array.all_eq_true_iff_forall_mem]
 intro v hv
 simp only [row, Array.mem_ofFn] at hv
 obtain ⟨i, rfl⟩ := hv
 rfl
theorem zeros64 : row 64 (fun _ => 0) = Array.replicate 64 (Value.int .u32 0) := by
 apply Array.ext
 ·simp [row]
 ·intro i h1 h2; simp [row]
def Words (w : World) (g n : Nat) (t : TypeId) (f : Nat → Int) : Prop := w.heap[g]? = some (.cells (row n f) t (0, 0))
theorem Words.cell {w : World} {g n : Nat} {t : TypeId} {f : Nat → Int} (h : Words w g n t f) (k : Nat) (hk : k < n) : w.cell? ⟨g, k, none⟩ = some (.int .u32 (f k)) := by
 rw [cell_of_row w g k _ t _ h, row_get n f k hk]
theorem Words.free {w : World} {g n : Nat} {t : TypeId} {f : Nat → Int} (h : Words w g n t f) (k : Nat) : w.frozen? ⟨g, k, none⟩ = false := frozen_of_row w g k _ t h
theorem Words.put {w : World} {g n : Nat} {t : TypeId} {f : Nat → Int} (h : Words w g n t f) (k : Nat) (v : Int) : Words (w.setCell ⟨g, k, none⟩ (.int .u32 v)) g n t (upd f k v) := by
 have := heap_setCell_same w g k _ t (.int .u32 v) h
 rwa [row_set] at this
theorem Words.drew {w : World} {g n : Nat} {t : TypeId} {f : Nat → Int} (h : Words w g n t f) : Words w.drew g n t f := h
theorem Words.other {w : World} {g n : Nat} {t : TypeId} {f : Nat → Int} (h : Words w g n t f) (a : Addr) (v : Value) (ha : g ≠ a.block) : Words (w.setCell a v) g n t f := by
 unfold Words; rw [heap_setCell_other w a g v ha]; exact h
theorem Words.lt {w : World} {g n : Nat} {t : TypeId} {f : Nat → Int} (h : Words w g n t f) : g < w.heap.size := (Array.getElem?_eq_some_iff.1 h).1
theorem Words.alloc {w : World} {g n : Nat} {t : TypeId} {f : Nat → Int} (h : Words w g n t f) (o : Obj) : Words (w.alloc o) g n t f := by
 unfold Words; rw [Below.heap_alloc w o g h.lt]; exact h
theorem Words.below {w w' : World} {g n : Nat} {t : TypeId} {f : Nat → Int} (h : Words w g n t f) {B : Nat} (hb : Below B w w') (hg : g < B) : Words w' g n t f := by
 unfold Words; rw [hb.block g hg]; exact h
def byt (s : ByteArray) (i : Nat) : Int := ((s.data.toList.getD i 0).toNat : Int)
def rotr (x : Int) (n : Nat) : Int := bits .or .u32 (x / 2 ^ n) (x * 2 ^ (32 - n) % 4294967296)
def sg0 (x : Int) : Int := bits .xor .u32 (bits .xor .u32 (rotr x 7) (rotr x 18)) (x / 8)
def sg1 (x : Int) : Int := bits .xor .u32 (bits .xor .u32 (rotr x 17) (rotr x 19)) (x / 1024)
def iniP (s : ByteArray) (k : Nat) : Int :=
 bits .or .u32 (bits .or .u32 (bits .or .u32 (byt s (4 * k) % 4294967296 * 16777216 % 4294967296) (byt s (4 * k + 1) % 4294967296 * 65536 % 4294967296)) (byt s (4 * k + 2) % 4294967296 * 256 % 4294967296)) (byt s (4 * k + 3) % 4294967296)
def iniR (s : ByteArray) (k : Nat) : Int :=
 (byt s (4 * k) % 4294967296 * 16777216 + byt s (4 * k + 1) % 4294967296 * 65536 + byt s (4 * k + 2) % 4294967296 * 256 + byt s (4 * k + 3)) % 4294967296
def wrd (f : Nat → Int) (i : Nat) : Int :=
 if _h : i < 16 then f i else (wrd f (i - 16) + sg0 (wrd f (i - 15)) + wrd f (i - 7) + sg1 (wrd f (i - 2))) % 4294967296
theorem wrd_lo (f : Nat → Int) (i : Nat) (h : i < 16) : wrd f i = f i := by rw [wrd, dif_pos h]
theorem wrd_hi (f : Nat → Int) (i : Nat) (h : ¬ i < 16) : wrd f i = (wrd f (i - 16) + sg0 (wrd f (i - 15)) + wrd f (i - 7) + sg1 (wrd f (i - 2))) % 4294967296 := by rw [wrd, dif_neg h]
theorem wrd_congr (f g : Nat → Int) (h : ∀ j, j < 16 → f j = g j) (i : Nat) : wrd f i = wrd g i := by
 induction i using Nat.strongRecOn with
 | ind i ih =>
  by_cases hi : i < 16
  ·rw [wrd_lo f i hi, wrd_lo g i hi, h i hi]
  ·rw [wrd_hi f i hi, wrd_hi g i hi, ih (i - 16) (by omega), ih (i - 15) (by omega), ih (i - 7) (by omega), ih (i - 2) (by omega)]
theorem or_comm32 (a b : Int) : bits .or .u32 a b = bits .or .u32 b a := by
 unfold bits
 simp only [BitVec.or_comm]
theorem index_byt (s : ByteArray) (i : Nat) (h : i < s.size) (W : World) (j : Int) (hj : j = (i : Int)) : (Instr.index 9 (.string s) (.int .i64 j)).run Tryz.prog W = .ok (.int .u8 (byt s i)) W := by
 subst hj
 rw [run_index_string W 9 s .i64 i Tryz.underlying9, dif_pos ⟨by omega, by omega⟩]
 have hs : i < s.data.toList.length := h
 have e : byt s i = ((s[i]'h).toNat : Int) := by
  unfold byt
  rw [List.getD_eq_getElem?_getD, List.getElem?_eq_getElem hs]
  rfl
 rw [e]
 rfl
set_option maxHeartbeats 400000 in
theorem rot_any (x : Int) (n : Nat) (k : Int) (w : World) (hk : bits BinOp.and IntKind.u64 (IntKind.u64.wrap k) 31 = ((32 - n : Nat) : Int)) (h1 : 1 ≤ n) (h3 : n ≤ 32) :
  Calls Tryz.prog 266 #[.int .u32 x, .int .i64 k] w fun e w' => e = .returned (.int .u32 (rotr x n)) ∧ w' = w := by
 obtain ⟨s, hs⟩ : ∃ s : Int, s = ((32 - n : Nat) : Int) := ⟨_, rfl⟩
 rw [← hs] at hk
 have h0 : 0 ≤ s := by omega
 have h2 : s ≤ 31 := by omega
 have e1 : s.toNat = 32 - n := by omega
 have e2 : (32 - s).toNat = n := by omega
 have e : bits BinOp.or IntKind.u32 (x * 2 ^ s.toNat % 4294967296) (x / 2 ^ (32 - s).toNat) = rotr x n := by rw [e1, e2, or_comm32]; rfl
 have E : Hid (bits BinOp.or IntKind.u32 (x * 2 ^ s.toNat % 4294967296) (x / 2 ^ (32 - s).toNat) = rotr x n) := e
 clear e e1 e2 hs
 go_enter Tryz.func266, Tryz.ntmps266
 go_wp2
 go_ret
 rw [E.out]
 exact ⟨rfl, rfl⟩
theorem and31 : ∀ m : Fin 31, bits BinOp.and IntKind.u64 (IntKind.u64.wrap (-((m.val : Int) + 1))) 31 = ((32 - (m.val + 1) : Nat) : Int) := by decide
theorem rot_at (x k : Int) (w : World) (h0 : -31 ≤ k) (h1 : k ≤ -1) :
  Calls Tryz.prog 266 #[.int .u32 x, .int .i64 k] w fun e w' => e = .returned (.int .u32 (rotr x (-k).toNat)) ∧ w' = w := by
 have h := and31 ⟨(-k).toNat - 1, by omega⟩
 have e1 : -((((-k).toNat - 1 : Nat) : Int) + 1) = k := by omega
 have e2 : 32 - ((-k).toNat - 1 + 1) = 32 - (-k).toNat := by omega
 simp only [e1, e2] at h
 exact rot_any x (-k).toNat k w h (by omega) (by omega)
theorem fill_step {w wr : World} {f g : Nat → Int} {k : Nat} {v : Int} (hb : Below w.heap.size w wr) (hsz : wr.heap.size = w.heap.size + 2) (hz : Words wr w.heap.size 64 372 (fun _ => 0)) (hf : Words wr (w.heap.size + 1) 64 372 f) (hfj : ∀ j, j < k → f j = g j) (hv : v = g k) :
  Below w.heap.size w (wr.setCell ⟨w.heap.size + 1, k, none⟩ (.int .u32 v)) ∧ (wr.setCell ⟨w.heap.size + 1, k, none⟩ (.int .u32 v)).heap.size = w.heap.size + 2 ∧
  Words (wr.setCell ⟨w.heap.size + 1, k, none⟩ (.int .u32 v)) w.heap.size 64 372 (fun _ => 0) ∧ ∃ f', Words (wr.setCell ⟨w.heap.size + 1, k, none⟩ (.int .u32 v)) (w.heap.size + 1) 64 372 f' ∧ ∀ j, j < k + 1 → f' j = g j := by
 refine ⟨hb.setCell (by simp) _, by simp [World.setCell]; exact hsz, hz.other _ _ (by simp), upd f k v, hf.put k v, fun j hj => ?_⟩
 unfold upd
 by_cases h : j = k
 ·rw [if_pos h, h, hv]
 ·rw [if_neg h]; exact hfj j (by omega)
theorem below_setRow {B : Nat} {a w : World} (h : Below B a w) (g : Nat) (hg : B ≤ g) (cs : Array Value) : Below B a (w.setRow g cs) :=
 h.trans ⟨rfl, rfl, rfl, by simp, fun k hk => setRow_other w g k cs (by omega)⟩
theorem info32 : (Tryz.prog.info? 372).map (·.size) = some 64 := by kernel_rfl
theorem info26 : (Tryz.prog.info? 294).map (·.size) = some 8 := by kernel_rfl
def Tab (w : World) (g : Nat) (f : Nat → Int) : Prop := ∀ k, k < 64 → w.cell? ⟨g, k, none⟩ = some (.int .u32 (f k))
theorem Tab.below {w w' : World} {g : Nat} {f : Nat → Int} (h : Tab w g f) {B : Nat} (hb : Below B w w') (hg : g < B) : Tab w' g f := fun k hk => (hb.cell (p := ⟨g, k, none⟩) hg).trans (h k hk)
theorem words_setRow {w : World} {g n : Nat} {t : TypeId} {old : Array Value} (f : Nat → Int) (h : w.heap[g]? = some (.cells old t (0, 0))) : Words (w.setRow g (row n f)) g n t f := setRow_heap w g old _ t _ h
theorem Words.setRow_other {w : World} {g n : Nat} {t : TypeId} {f : Nat → Int} (h : Words w g n t f) (k : Nat) (cs : Array Value) (hk : g ≠ k) : Words (w.setRow k cs) g n t f := by
 unfold Words; rw [Go.setRow_other w k g cs hk]; exact h
theorem wpList_store_row_at {P : Program} {ops : Array Oper} {rest : List Oper} {o : Oper} {a : Act} {w : World} {Q : Exit → Act → World → Prop} (hgd : o.guard = none) (hd : o.dst = none) (ty : TypeId) (x y : Operand) (ho : o.op = .store ty x y)
  (g : Nat) (cells : Array Value) (hx : a.eval x = .pointer (some ⟨g, 0, none⟩)) (hy : a.eval y = .agg cells)
  (t : TypeId) (old : Array Value) (hg : w.heap[g]? = some (.cells old t (0, 0))) (hi : (P.info? ty).map (·.size) = some cells.size)
  (hold : old.size = cells.size) (h1 : cells.all (·.oneCell') = true)
  (h : ∀ w2, Hid (w2 = w.setRow g cells) → wpList P ops Q rest a w2) : wpList P ops Q (o :: rest) a w :=
 wpList_store_row hgd ty x y ho g cells hx hy t old hg hi hold h1 (by rw [hd]; exact h _ rfl)
set_option maxHeartbeats 1000000 in
theorem sched_any (s : ByteArray) (w : World) (h0 : s.size = 64)  :
  Calls Tryz.prog 265 #[.string s] w fun e w' => e = .returned (.agg (row 64 (wrd (iniP s)))) ∧ Below w.heap.size w w' := by
 go_enter Tryz.func265, Tryz.ntmps265
 go_wp2
 go_loopw [8] (fun i wr => ∃ k : Nat, k ≤ 16 ∧ i = .int .i64 k ∧ Below w.heap.size w wr ∧ wr.heap.size = w.heap.size + 2 ∧ Words wr w.heap.size 64 372 (fun _ => 0) ∧ ∃ f, Words wr (w.heap.size + 1) 64 372 f ∧ ∀ j, j < k → f j = wrd (iniP s) j) (fun i _ => 16 - (intOf i).toNat)
 case atStart =>
  refine ⟨0, by omega, rfl, ?_, ?_, ?_, (fun _ => 0), ?_, fun j hj => by omega⟩
  ·exact ((Below.refl _ _).alloc (Nat.le_refl _) _).alloc (by simp) _
  ·simp
  ·unfold Words; rw [zeros64]; exact heap_alloc2_old _ _ _
  ·unfold Words; rw [zeros64]; exact heap_alloc2_new _ _ _
 case round =>
  obtain ⟨k, hk, rfl, hb, hsz, hz, f, hf, hfj⟩ := hrel
  by_cases hlt : k < 16
  ·have hck := hf.cell k (by omega)
   have hfk := hf.free k
   have i0 := fun W => index_byt s (4 * k) (by omega) W (4 * (k : Int)) (by omega)
   have i1 := fun W => index_byt s (4 * k + 1) (by omega) W (4 * (k : Int) + 1) (by omega)
   have i2 := fun W => index_byt s (4 * k + 2) (by omega) W (4 * (k : Int) + 2) (by omega)
   have i3 := fun W => index_byt s (4 * k + 3) (by omega) W (4 * (k : Int) + 3) (by omega)
   have HJ : Hid _ := hfj
   clear hfj
   go_wp2
   go_region
   go_wp2
   go_roundw
   case rel =>
    exact ⟨k + 1, by omega, by go_num, fill_step hb.drew hsz hz hf HJ.out (wrd_lo (iniP s) k hlt).symm⟩
   case measure => simp [intOf]; omega
  ·have hk16 : k = 16 := by omega
   subst hk16
   have HF : Hid _ := hfj
   clear hfj
   go_wp2
   go_loopw [5] (fun i wr => ∃ k : Nat, 16 ≤ k ∧ k ≤ 64 ∧ i = .int .i64 k ∧ Below w.heap.size w wr ∧ wr.heap.size = w.heap.size + 2 ∧ Words wr w.heap.size 64 372 (fun _ => 0) ∧ ∃ f, Words wr (w.heap.size + 1) 64 372 f ∧ ∀ j, j < k → f j = wrd (iniP s) j) (fun i _ => 64 - (intOf i).toNat)
   case atStart => exact ⟨16, by omega, by omega, rfl, hb, hsz, hz, f, hf, HF.out⟩
   case round =>
    clear hf hb hsz hz HF
    obtain ⟨k, hk1, hk2, rfl, hb, hsz, hz, f, hf, hfj⟩ := hrel
    by_cases hlt : k < 64
    ·have hck := hf.cell k (by omega)
     have hfk := hf.free k
     have h15 := hf.cell (k - 15) (by omega)
     have h2 := hf.cell (k - 2) (by omega)
     have h16 := hf.cell (k - 16) (by omega)
     have h7 := hf.cell (k - 7) (by omega)
     rw [hfj (k - 15) (by omega)] at h15
     rw [hfj (k - 2) (by omega)] at h2
     rw [hfj (k - 16) (by omega)] at h16
     rw [hfj (k - 7) (by omega)] at h7
     have HJ : Hid _ := hfj
     clear hfj
     go_wp2
     go_quiet (fail)
     go_wp2_with (go_at_call 266; refine (rot_at _ _ _ (by decide) (by decide)).mono ?_; rintro e w' ⟨rfl, rfl⟩)
     go_region
     go_wp2
     go_roundw
     case rel =>
      repeat apply Exists.intro
      exact ⟨⟨k + 1, by omega, by omega, by go_num, fill_step (below_drewN hb _) hsz hz hf HJ.out (wrd_hi (iniP s) k (by omega)).symm⟩, rfl⟩
     case measure => simp [intOf]; omega
    ·have hk64 : k = 64 := by omega
     subst hk64
     have HF : Hid _ := hfj
     clear hfj
     have hld : (Tryz.prog.info? 372).map (·.size) = some (row 64 f).size := by rw [row_size]; exact info32
     have hold : (row 64 (fun _ => 0)).size = (row 64 f).size := by simp [row_size]
     go_wp2_with (first | (refine wpList_load_row rfl 372 (.tmp 3) rfl (w.heap.size + 1) rfl 372 (row 64 f) (0, 0) _ hf Tryz.underlying372 rfl hld ?_) | (refine wpList_store_row rfl 372 (.tmp 2) (.tmp 86) rfl (w.heap.size) (row 64 f) rfl rfl 372 (row 64 fun _ => 0) hz hld hold (row_ones _ _) ?_))
     have e : row 64 f = row 64 (wrd (iniP s)) := row_congr 64 _ _ HF.out
     refine bodyPost_ret (v := .agg (row 64 f)) ?_ rfl ?_
     ·exact results_cell_row Tryz.results265 _ _ w.heap.size 372 (row 64 f) (0, 0) _ rfl (setRow_heap wr w.heap.size _ _ 372 (0, 0) hz) Tryz.underlying372 rfl hld
     ·rw [e]
      exact ⟨rfl, below_setRow hb _ (Nat.le_refl _) _⟩
set_option maxHeartbeats 400000 in
theorem turn_any (x : Int) (n : Nat) (m : Int) (w : World) (hm : m = n) (h3 : n ≤ 32) :
  Calls Tryz.prog 276 #[.int .u32 x, .int .u32 m] w fun e w' => e = .returned (.int .u32 (rotr x n)) ∧ w' = w := by
 have h0 : 0 ≤ m := by omega
 have h1 : m ≤ 32 := by omega
 have e1 : m.toNat = n := by omega
 have e2 : (32 - m).toNat = 32 - n := by omega
 have e : bits BinOp.or IntKind.u32 (x / 2 ^ m.toNat) (x * 2 ^ (32 - m).toNat % 4294967296) = rotr x n := by rw [e1, e2]; rfl
 have E : Hid (bits BinOp.or IntKind.u32 (x / 2 ^ m.toNat) (x * 2 ^ (32 - m).toNat % 4294967296) = rotr x n) := e
 clear e e1 e2 hm
 go_enter Tryz.func276, Tryz.ntmps276
 go_wp2
 go_ret
 rw [E.out]
 exact ⟨rfl, rfl⟩
theorem turn_at (x n : Int) (w : World) (h0 : 0 ≤ n) (h1 : n ≤ 32) :
  Calls Tryz.prog 276 #[.int .u32 x, .int .u32 n] w fun e w' => e = .returned (.int .u32 (rotr x n.toNat)) ∧ w' = w :=
 turn_any x n.toNat n w (by omega) (by omega)
set_option maxHeartbeats 1000000 in
theorem words_any (s : ByteArray) (w : World) (h0 : s.size = 64)  :
  Calls Tryz.prog 275 #[.string s] w fun e w' => e = .returned (.agg (row 64 (wrd (iniR s)))) ∧ Below w.heap.size w w' := by
 go_enter Tryz.func275, Tryz.ntmps275
 go_wp2
 go_loopw [4] (fun i wr => ∃ k : Nat, k ≤ 16 ∧ i = .int .i64 k ∧ Below w.heap.size w wr ∧ wr.heap.size = w.heap.size + 2 ∧ Words wr w.heap.size 64 372 (fun _ => 0) ∧ ∃ f, Words wr (w.heap.size + 1) 64 372 f ∧ ∀ j, j < k → f j = wrd (iniR s) j) (fun i _ => 16 - (intOf i).toNat)
 case atStart =>
  refine ⟨0, by omega, rfl, ?_, ?_, ?_, (fun _ => 0), ?_, fun j hj => by omega⟩
  ·exact ((Below.refl _ _).alloc (Nat.le_refl _) _).alloc (by simp) _
  ·simp
  ·unfold Words; rw [zeros64]; exact heap_alloc2_old _ _ _
  ·unfold Words; rw [zeros64]; exact heap_alloc2_new _ _ _
 case round =>
  obtain ⟨k, hk, rfl, hb, hsz, hz, f, hf, hfj⟩ := hrel
  by_cases hlt : k < 16
  ·have hck := hf.cell k (by omega)
   have hfk := hf.free k
   have i0 := fun W => index_byt s (4 * k) (by omega) W (4 * (k : Int)) (by omega)
   have i1 := fun W => index_byt s (4 * k + 1) (by omega) W (4 * (k : Int) + 1) (by omega)
   have i2 := fun W => index_byt s (4 * k + 2) (by omega) W (4 * (k : Int) + 2) (by omega)
   have i3 := fun W => index_byt s (4 * k + 3) (by omega) W (4 * (k : Int) + 3) (by omega)
   have HJ : Hid _ := hfj
   clear hfj
   go_wp2
   go_region
   go_wp2
   go_roundw
   case rel =>
    exact ⟨k + 1, by omega, by go_num, fill_step hb.drew hsz hz hf HJ.out (wrd_lo (iniR s) k hlt).symm⟩
   case measure => simp [intOf]; omega
  ·have hk16 : k = 16 := by omega
   subst hk16
   have HF : Hid _ := hfj
   clear hfj
   go_wp2
   go_loopw [5] (fun i wr => ∃ k : Nat, 16 ≤ k ∧ k ≤ 64 ∧ i = .int .i64 k ∧ Below w.heap.size w wr ∧ wr.heap.size = w.heap.size + 2 ∧ Words wr w.heap.size 64 372 (fun _ => 0) ∧ ∃ f, Words wr (w.heap.size + 1) 64 372 f ∧ ∀ j, j < k → f j = wrd (iniR s) j) (fun i _ => 64 - (intOf i).toNat)
   case atStart => exact ⟨16, by omega, by omega, rfl, hb, hsz, hz, f, hf, HF.out⟩
   case round =>
    clear hf hb hsz hz HF
    obtain ⟨k, hk1, hk2, rfl, hb, hsz, hz, f, hf, hfj⟩ := hrel
    by_cases hlt : k < 64
    ·have hck := hf.cell k (by omega)
     have hfk := hf.free k
     have h15 := hf.cell (k - 15) (by omega)
     have h2 := hf.cell (k - 2) (by omega)
     have h16 := hf.cell (k - 16) (by omega)
     have h7 := hf.cell (k - 7) (by omega)
     rw [hfj (k - 15) (by omega)] at h15
     rw [hfj (k - 2) (by omega)] at h2
     rw [hfj (k - 16) (by omega)] at h16
     rw [hfj (k - 7) (by omega)] at h7
     have HJ : Hid _ := hfj
     clear hfj
     go_wp2
     go_quiet ((go_at_call 276; exact Calls.quiet_of_same (turn_at _ _ _ (by decide) (by decide))))
     go_wp2
     obtain ⟨wq, hwq⟩ : ∃ wq, wq = wr.drewN nq := ⟨_, rfl⟩
     rw [← hwq]
     have hbq : Below w.heap.size w wq := by rw [hwq]; exact below_drewN hb _
     have hszq : wq.heap.size = w.heap.size + 2 := by rw [hwq]; exact hsz
     have hzq : Words wq w.heap.size 64 372 (fun _ => 0) := by rw [hwq]; exact hz
     have hfq : Words wq (w.heap.size + 1) 64 372 f := by rw [hwq]; exact hf
     rw [show wr.cell? ⟨w.heap.size + 1, k, none⟩ = wq.cell? ⟨w.heap.size + 1, k, none⟩ by rw [hwq]; rfl] at hck
     rw [show wr.frozen? ⟨w.heap.size + 1, k, none⟩ = wq.frozen? ⟨w.heap.size + 1, k, none⟩ by rw [hwq]; rfl] at hfk
     rw [show wr.cell? ⟨w.heap.size + 1, k - 2, none⟩ = wq.cell? ⟨w.heap.size + 1, k - 2, none⟩ by rw [hwq]; rfl] at h2
     rw [show wr.cell? ⟨w.heap.size + 1, k - 16, none⟩ = wq.cell? ⟨w.heap.size + 1, k - 16, none⟩ by rw [hwq]; rfl] at h16
     rw [show wr.cell? ⟨w.heap.size + 1, k - 7, none⟩ = wq.cell? ⟨w.heap.size + 1, k - 7, none⟩ by rw [hwq]; rfl] at h7
     clear hwq hb hsz hz hf h15
     go_quiet ((go_at_call 276; exact Calls.quiet_of_same (turn_at _ _ _ (by decide) (by decide))))
     go_wp2
     go_region
     go_wp2
     go_roundw
     case rel =>
      exact ⟨k + 1, by omega, by omega, by go_num, fill_step (below_drewN hbq _) hszq hzq hfq HJ.out (wrd_hi (iniR s) k (by omega)).symm⟩
     case measure => simp [intOf]; omega
    ·have hk64 : k = 64 := by omega
     subst hk64
     have HF : Hid _ := hfj
     clear hfj
     have hld : (Tryz.prog.info? 372).map (·.size) = some (row 64 f).size := by rw [row_size]; exact info32
     have hold : (row 64 (fun _ => 0)).size = (row 64 f).size := by simp [row_size]
     go_wp2_with (first | (refine wpList_load_row rfl 372 (.tmp 3) rfl (w.heap.size + 1) rfl 372 (row 64 f) (0, 0) _ hf Tryz.underlying372 rfl hld ?_) | (refine wpList_store_row rfl 372 (.tmp 2) (.tmp 96) rfl (w.heap.size) (row 64 f) rfl rfl 372 (row 64 fun _ => 0) hz hld hold (row_ones _ _) ?_))
     have e : row 64 f = row 64 (wrd (iniR s)) := row_congr 64 _ _ HF.out
     refine bodyPost_ret (v := .agg (row 64 f)) ?_ rfl ?_
     ·exact results_cell_row Tryz.results275 _ _ w.heap.size 372 (row 64 f) (0, 0) _ rfl (setRow_heap wr w.heap.size _ _ 372 (0, 0) hz) Tryz.underlying372 rfl hld
     ·rw [e]
      exact ⟨rfl, below_setRow hb _ (Nat.le_refl _) _⟩
end Go.Proofs.YtadinjaocnlglaaGreatDoor
