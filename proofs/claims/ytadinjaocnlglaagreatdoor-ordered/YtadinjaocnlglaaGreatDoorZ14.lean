/-
  The walk of draft's Write (nothing refused).
  Footprints: what a call may write, and what it leaves alone.
  What a Draft refuses: checkState, overFirst, breakOff.
  A Writer as the document tells it: what was begun and written, the first error that broke it, whether Close has answered; and its answers.
  The walks of slices.Grow at nil, slices.Concat of two lists, stripe.Whole.
-/
import Derived.Test.YtadinjaocnlglaaGreatDoorZ13
import Derived.WalkKit
import Derived.Test.YtadinjaocnlglaaGreatDoorZ12
import Derived.Lib.Walk
import Derived.Lib.SliceRun
import Derived.Lib.AppendZerosOnto
import Derived.Test.YtadinjaocnlglaaGreatDoorZ07
namespace Go.Proofs.YtadinjaocnlglaaGreatDoor
open Go.RowKit
set_option maxRecDepth 100000
set_option maxHeartbeats 1000000
theorem u8info : ∃ i, Tryz.prog.info? 5 = some i ∧ i.zero = some (.int .u8 0) ∧ i.size = 1 ∧ i.bytes = 1 := by
  exact info_parts (P := Tryz.prog) (e := 5) (z := .int .u8 0) (size := 1) (bytes := 1) (by kernel_rfl)
theorem ne_own {w : World} {base k ob : Nat} {dv : Value} {xs : List Value} {cs : Array Value} {t : TypeId} (h : w.ownsRow base 5 1 dv k xs) (ho : w.heap[ob]? = some (.cells cs t (0, 0))) (ht : t ≠ 5) : some ob ≠ dv.ownBlock := by
  rcases h.2 with ⟨rfl, _⟩ | ⟨g, cap, cur, rfl, _, hg, _⟩
  · simp [Value.ownBlock]
  · intro e
    simp only [Value.ownBlock, Option.some.injEq] at e
    subst e
    rw [hg] at ho
    simp at ho
    exact ht ho.2.symm
theorem grown_row {w w' : World} {row : Option Nat} {g : Nat} {o : Obj} (h : w.grownBy w' row) (hg : w.heap[g]? = some o) (hne : some g ≠ row) : w'.heap[g]? = some o := by
  rw [h.block g (Array.getElem?_eq_some_iff.1 hg).1 hne]; exact hg
theorem own_set {w : World} {base k ob j : Nat} {dv v : Value} {xs : List Value} {cs : Array Value} {t : TypeId} (h : w.ownsRow base 5 1 dv k xs) (ho : w.heap[ob]? = some (.cells cs t (0, 0))) (ht : t ≠ 5) : (w.setCell ⟨ob, j, none⟩ v).ownsRow base 5 1 dv k xs := by
  have hne := ne_own h ho ht
  refine ⟨h.1, ?_⟩
  rcases h.2 with h2 | ⟨g, cap, cur, rfl, hb, hg, rest⟩
  · exact .inl h2
  · refine .inr ⟨g, cap, cur, rfl, hb, ?_, rest⟩
    rw [set_other]
    · exact hg
    · intro e; subst e; exact hne rfl
/-- what is no memory is as it was -/
def Calm (w w' : World) : Prop := w'.os = w.os ∧ w'.tape = w.tape ∧ w'.output = w.output
theorem Calm.trans {a b c : World} (h : Calm a b) (k : Calm b c) : Calm a c := ⟨k.1.trans h.1, k.2.1.trans h.2.1, k.2.2.trans h.2.2⟩
theorem Calm.below {B : Nat} {a b : World} (h : Below B a b) : Calm a b := ⟨h.os, h.tape, h.output⟩
theorem Calm.grown {a b : World} {r : Option Nat} (h : a.grownBy b r) : Calm a b := ⟨h.os, h.tape, h.output⟩
theorem Calm.set {a b : World} (h : Calm a b) (p : Addr) (v : Value) : Calm a (b.setCell p v) := h
theorem dwrite_end (g ob K M C V n len k base : Nat) (num : Value) (objv dv v2 : Value) (xs : List Value) (s : ByteArray) (w w2 : World) (hne : g ≠ ob)
    (hg2 : w2.heap[g]? = some (.cells (dC K M C V objv (.pointer (some ⟨ob, 0, none⟩)) n len) 252 (0, 0)))
    (ho2 : w2.heap[ob]? = some (.cells #[num, dv] 261 (0, 0))) (hO2 : w2.ownsRow base 5 1 v2 (k + s.size) (xs ++ Lib.strCells s)) (hG2 : w.grownBy w2 dv.ownBlock) :
    ∃ dv', ((w2.setCell ⟨ob, 1, none⟩ v2).setCell ⟨g, 7, none⟩ (.int .i64 (len + s.size))).heap[g]? = some (.cells (dC K M C V objv (.pointer (some ⟨ob, 0, none⟩)) n (len + s.size)) 252 (0, 0)) ∧ ((w2.setCell ⟨ob, 1, none⟩ v2).setCell ⟨g, 7, none⟩ (.int .i64 (len + s.size))).heap[ob]? = some (.cells #[num, dv'] 261 (0, 0)) ∧ ((w2.setCell ⟨ob, 1, none⟩ v2).setCell ⟨g, 7, none⟩ (.int .i64 (len + s.size))).ownsRow base 5 1 dv' (k + s.size) (xs ++ Lib.strCells s) ∧
      w.heap.size ≤ ((w2.setCell ⟨ob, 1, none⟩ v2).setCell ⟨g, 7, none⟩ (.int .i64 (len + s.size))).heap.size ∧ (∀ j, j < w.heap.size → j ≠ g → j ≠ ob → some j ≠ dv.ownBlock → ((w2.setCell ⟨ob, 1, none⟩ v2).setCell ⟨g, 7, none⟩ (.int .i64 (len + s.size))).heap[j]? = w.heap[j]?) ∧ Calm w ((w2.setCell ⟨ob, 1, none⟩ v2).setCell ⟨g, 7, none⟩ (.int .i64 (len + s.size))) := by
  have ho3 := set_heap w2 ob 1 v2 _ _ _ ho2
  have hg3 := (set_other w2 ob 1 g v2 hne).trans hg2
  refine ⟨v2, ?_, ?_, ?_, ?_, ?_, ((Calm.grown hG2).set _ _).set _ _⟩
  · have := set_heap _ g 7 (.int .i64 (len + s.size)) _ _ _ hg3
    simpa [dC] using this
  · rw [set_other _ _ _ _ _ hne.symm]; simpa using ho3
  · exact own_set (own_set hO2 ho2 (by decide)) hg3 (by decide)
  · have := hG2.size; simp [World.setCell]; omega
  · intro j hj h1 h2 h3
    rw [set_other _ _ _ _ _ h1, set_other _ _ _ _ _ h2]
    exact hG2.block j hj h3
theorem dwrite_ok (g ob K M C V n len k base : Nat) (num : Value) (objv dv : Value) (xs : List Value) (s : ByteArray) (w : World)
    (hg : w.heap[g]? = some (.cells (dC K M C V objv (.pointer (some ⟨ob, 0, none⟩)) n len) 252 (0, 0)))
    (ho : w.heap[ob]? = some (.cells #[num, dv] 261 (0, 0))) (hown : w.ownsRow base 5 1 dv k xs) (hb : base ≤ w.heap.size) (hlen : len + s.size ≤ 4096) (hk : k ≤ 4096) :
    Calls Tryz.prog 102 #[.pointer (some ⟨g, 0, none⟩), .string s] w fun e w' => e = .returned (.tuple #[.int .i64 s.size, .nilIface]) ∧ ∃ dv',
      w'.heap[g]? = some (.cells (dC K M C V objv (.pointer (some ⟨ob, 0, none⟩)) n (len + s.size)) 252 (0, 0)) ∧ w'.heap[ob]? = some (.cells #[num, dv'] 261 (0, 0)) ∧ w'.ownsRow base 5 1 dv' (k + s.size) (xs ++ Lib.strCells s) ∧
      w.heap.size ≤ w'.heap.size ∧ (∀ j, j < w.heap.size → j ≠ g → j ≠ ob → some j ≠ dv.ownBlock → w'.heap[j]? = w.heap[j]?) ∧ Calm w w' := by
  have c5 : w.cell? ⟨g, 5, none⟩ = some (.pointer (some ⟨ob, 0, none⟩)) := cell_of_row _ _ _ _ 252 _ hg
  have c7 : w.cell? ⟨g, 7, none⟩ = some (.int .i64 len) := cell_of_row _ _ _ _ 252 _ hg
  have c8 : w.cell? ⟨g, 8, none⟩ = some (.bool false) := cell_of_row _ _ _ _ 252 _ hg
  have c11 : w.cell? ⟨g, 11, none⟩ = some (.bool false) := cell_of_row _ _ _ _ 252 _ hg
  have o1 : w.cell? ⟨ob, 1, none⟩ = some dv := cell_of_row _ _ _ _ 261 _ ho
  have h23 : Hid _ := state_ok g w c8 c11
  obtain ⟨i5, hi, hz, hs1, hs2⟩ := u8info
  have hs64 : (s.size : Int) ≤ 9223372036854775807 := by omega
  have hl0 : ¬ ((s.size : Int) > 4096 - (len : Int)) := by omega
  go_enter Tryz.func102, Tryz.ntmps102
  go_wp2_with (go_at_call 148; refine Calls.mono h23.out ?_; rintro e w' ⟨rfl, rfl⟩)
  clear h23
  have f1 : w'.frozen? ⟨ob, 1, none⟩ = false := frozen_of_row _ _ _ _ 261 ho
  have hne := ne_own hown ho (by decide)
  have hneg := ne_own hown hg (by decide)
  have HO : Hid _ := hown
  clear hown c8 c11 c7
  go_region_law (refine step_text_own rfl (.tmp 42) (.tmp 43) 165 9 5 rfl Tryz.underlying165 Tryz.underlying9 i5 hi hz hs1 hs2 base k dv xs s (by simp [Act.eval]) (by simp [Act.eval]) (by exact HO.out) (by omega) (by exact hb) ?_; intro v2 w2 hO2 hG2; have ho2 : w2.heap[ob]? = some (.cells #[num, dv] 261 (0, 0)) := (grown_row hG2 ho hne); obtain ⟨a2, k2, hv2⟩ := own_shape hO2; subst hv2; have hg2 : w2.heap[g]? = some (.cells (dC K M C V objv (.pointer (some ⟨ob, 0, none⟩)) n len) 252 (0, 0)) := (grown_row hG2 hg hneg); have g2 : w2.cell? ⟨g, 5, none⟩ = some (.pointer (some ⟨ob, 0, none⟩)) := (cell_of_row _ _ _ _ 252 _ hg2); have o2 : w2.cell? ⟨ob, 1, none⟩ = some dv := (cell_of_row _ _ _ _ 261 _ ho2); have f2 : w2.frozen? ⟨ob, 1, none⟩ = false := (frozen_of_row _ _ _ _ 261 ho2))
  all_goals (
    have hne2 : g ≠ ob := fun e => by subst e; rw [hg] at ho; simp at ho
    have ho3 := set_heap w2 ob 1 (.slice a2 (k + s.size) k2) _ _ _ ho2
    have hg3 := (set_other w2 ob 1 g (.slice a2 (k + s.size) k2) hne2).trans hg2
    have q7 : (w2.setCell ⟨ob, 1, none⟩ (.slice a2 (k + s.size) k2)).cell? ⟨g, 7, none⟩ = some (.int .i64 len) := cell_of_row _ _ _ _ 252 _ hg3
    have f7 : (w2.setCell ⟨ob, 1, none⟩ (.slice a2 (k + s.size) k2)).frozen? ⟨g, 7, none⟩ = false := frozen_of_row _ _ _ _ 252 hg3
    have hsl : (len : Int) + (s.size : Int) ≤ 9223372036854775807 := by omega
    clear o2 f2 g2 f1 c5 o1
    go_wp2
    go_ret2
    exact ⟨by simp, dwrite_end g ob K M C V n len k base num objv dv _ xs s w'.drew w2 hne2 hg2 ho2 hO2 hG2⟩)
end Go.Proofs.YtadinjaocnlglaaGreatDoor
namespace Go.Proofs.YtadinjaocnlglaaGreatDoor
open Go.RowKit
/-- blocks outside S that were there are as they were -/
structure Fr (S : Nat → Prop) (w w' : World) : Prop where
  size : w.heap.size ≤ w'.heap.size
  old : ∀ j, j < w.heap.size → ¬ S j → w'.heap[j]? = w.heap[j]?
  calm : Calm w w'
/-- S' is S and what is new -/
def Gro (S S' : Nat → Prop) (n : Nat) : Prop := ∀ j, S' j → S j ∨ n ≤ j
theorem Gro.refl (S : Nat → Prop) (n : Nat) : Gro S S n := fun _ h => .inl h
theorem Gro.trans {S S1 S2 : Nat → Prop} {n m : Nat} (h : Gro S S1 n) (h2 : Gro S1 S2 m) (hm : n ≤ m) : Gro S S2 n := fun j hj => by
  rcases h2 j hj with h3 | h3
  · exact h j h3
  · exact .inr (by omega)
theorem Calm.refl (w : World) : Calm w w := ⟨rfl, rfl, rfl⟩
theorem Fr.refl (S : Nat → Prop) (w : World) : Fr S w w := ⟨Nat.le_refl _, fun _ _ _ => rfl, Calm.refl w⟩
theorem Fr.below {S : Nat → Prop} {w w' : World} (h : Below w.heap.size w w') : Fr S w w' := ⟨h.size, fun j hj _ => h.block j hj, Calm.below h⟩
theorem Fr.toBelow {w w' : World} (h : Fr (fun _ => False) w w') : Below w.heap.size w w' := ⟨h.calm.1, h.calm.2.1, h.calm.2.2, h.size, fun k hk => h.old k hk (fun h => h)⟩
theorem Fr.mono {S T : Nat → Prop} {w w' : World} (h : Fr S w w') (hs : ∀ j, j < w.heap.size → S j → T j) : Fr T w w' := ⟨h.size, fun j hj hn => h.old j hj (fun hs' => hn (hs j hj hs')), h.calm⟩
theorem Fr.trans {S S1 : Nat → Prop} {w w1 w2 : World} (h : Fr S w w1) (hg : Gro S S1 w.heap.size) (h2 : Fr S1 w1 w2) : Fr S w w2 :=
  ⟨Nat.le_trans h.size h2.size, fun j hj hn => by
    rw [h2.old j (Nat.lt_of_lt_of_le hj h.size) (fun hs => by rcases hg j hs with h3 | h3; exact hn h3; omega)]; exact h.old j hj hn, h.calm.trans h2.calm⟩
theorem Fr.trans' {S : Nat → Prop} {w w1 w2 : World} (h : Fr S w w1) (h2 : Fr S w1 w2) : Fr S w w2 := h.trans (Gro.refl _ _) h2
theorem Fr.thenBelow {S : Nat → Prop} {w w1 w2 : World} (h : Fr S w w1) (h2 : Below w1.heap.size w1 w2) : Fr S w w2 := h.trans' (Fr.below h2)
theorem Fr.set {S : Nat → Prop} {w w' : World} {g : Nat} (h : Fr S w w') (hg : S g ∨ w.heap.size ≤ g) (k : Nat) (v : Value) : Fr S w (w'.setCell ⟨g, k, none⟩ v) :=
  ⟨by have := h.size; simpa [World.setCell] using this, fun j hj hn => by
    rw [set_other _ _ _ _ _ (fun e => by subst e; rcases hg with h3 | h3; exact hn h3; omega)]; exact h.old j hj hn, h.calm.set _ _⟩
theorem Fr.alloc {S : Nat → Prop} {w w' : World} (h : Fr S w w') (o : Obj) : Fr S w (w'.alloc o) :=
  h.thenBelow ((Below.refl _ _).alloc (Nat.le_refl _) _)
theorem Fr.drew {S : Nat → Prop} {w w' : World} (h : Fr S w w') : Fr S w w'.drew := h.thenBelow ((Below.refl _ _).drew)
theorem Fr.grown {S : Nat → Prop} {w w1 w2 : World} {row : Option Nat} (h : Fr S w w1) (hg : w1.grownBy w2 row) (hr : ∀ q, row = some q → S q ∨ w.heap.size ≤ q) : Fr S w w2 :=
  ⟨Nat.le_trans h.size hg.size, fun j hj hn => by
    rw [hg.block j (Nat.lt_of_lt_of_le hj h.size) (fun e => by rcases hr j e.symm with h3 | h3; exact hn h3; omega)]; exact h.old j hj hn, h.calm.trans (Calm.grown hg)⟩
theorem Fr.cell {S : Nat → Prop} {w w' : World} {g : Nat} (h : Fr S w w') (hg : g < w.heap.size) (hn : ¬ S g) (k : Nat) : w'.cell? ⟨g, k, none⟩ = w.cell? ⟨g, k, none⟩ := World.cell?_of_block (h.old g hg hn)
/-- the program's table is left alone by whoever writes behind it -/
theorem own_kept {w w' : World} {base : Nat} {e : TypeId} {size : Nat} {v : Value} {n : Nat} {xs : List Value} (h : w.ownsRow base e size v n xs) (hb : ∀ q, v.ownBlock = some q → w'.heap[q]? = w.heap[q]?) : w'.ownsRow base e size v n xs := by
  refine ⟨h.1, ?_⟩
  rcases h.2 with h2 | ⟨g, cap, cur, hv, hg, hh, rest⟩
  · exact .inl h2
  · exact .inr ⟨g, cap, cur, hv, hg, by rw [hb g (by rw [hv]; rfl)]; exact hh, rest⟩
end Go.Proofs.YtadinjaocnlglaaGreatDoor
namespace Go.Proofs.YtadinjaocnlglaaGreatDoor
open Go.RowKit
set_option maxRecDepth 100000
set_option maxHeartbeats 1000000
/-- a Draft's cells, whatever it has come to -/
def dZ (K M C V : Nat) (obj last : Value) (n len : Nat) (br : Bool) (fk fw : Int) (cl : Bool) : Array Value :=
  #[.int .i64 K, .int .i64 M, .int .i64 C, .int .i64 V, obj, last, .int .i64 n, .int .i64 len, .bool br, .int .i64 fk, .int .i64 fw, .bool cl]
theorem dC_Z (K M C V : Nat) (obj last : Value) (n len : Nat) : dC K M C V obj last n len = dZ K M C V obj last n len false 0 0 false := rfl
theorem overFirst_any (k : Int) (g K M C V n len : Nat) (obj last : Value) (br cl : Bool) (fk fw : Int) (w : World) (hg : w.heap[g]? = some (.cells (dZ K M C V obj last n len br fk fw cl) 252 (0, 0))) :
    Calls Tryz.prog 153 #[.pointer (some ⟨g, 0, none⟩), .int .i64 k] w fun e w' => ∃ v, e = .returned v ∧ ErrAt w' v [(k, (n : Int)), (fk, fw)] ∧ Below w.heap.size w w' := by
  have c6 : w.cell? ⟨g, 6, none⟩ = some (.int .i64 n) := cell_of_row _ _ _ _ 252 _ hg
  have c9 : w.cell? ⟨g, 9, none⟩ = some (.int .i64 fk) := cell_of_row _ _ _ _ 252 _ hg
  have c10 : w.cell? ⟨g, 10, none⟩ = some (.int .i64 fw) := cell_of_row _ _ _ _ 252 _ hg
  have hgl : g < w.heap.size := (Array.getElem?_eq_some_iff.1 hg).1
  clear hg
  go_enter Tryz.func153, Tryz.ntmps153
  go_wp2_with fail
  go_region_held3 (fun w2 => w2.cell? ⟨g, 6, none⟩ = some (.int .i64 n) ∧ w2.cell? ⟨g, 9, none⟩ = some (.int .i64 fk) ∧ w2.cell? ⟨g, 10, none⟩ = some (.int .i64 fw)) (go_keep) (first | (go_at_call 151; refine (at_err _ _ _).mono ?_; rintro e w2 ⟨g1, rfl, hg1, hb2⟩; have hB2 : Below w.heap.size w w2 := (by first | exact hb2 | exact ((Below.refl _ _).drew).trans hb2); have q6 := (hB2.cell (p := ⟨g, 6, none⟩) hgl).trans c6; have q9 := (hB2.cell (p := ⟨g, 9, none⟩) hgl).trans c9; have q10 := (hB2.cell (p := ⟨g, 10, none⟩) hgl).trans c10) | (go_at_call 178; refine (over_err _ _ _ _).mono ?_; rintro e w3 ⟨g2, rfl, hg2, hb3⟩; have hB3 : Below w.heap.size w w3 := hB2.trans (hb3.mono hB2.size); have r6 := (hB3.cell (p := ⟨g, 6, none⟩) hgl).trans c6; have r9 := (hB3.cell (p := ⟨g, 9, none⟩) hgl).trans c9; have r10 := (hB3.cell (p := ⟨g, 10, none⟩) hgl).trans c10))
  have HE : Hid (ErrAt w3 (.iface 305 (.pointer (some ⟨g2, 0, none⟩))) [(k, (n : Int)), (fk, fw)]) := ⟨g2, _, rfl, hg2, g1, _, rfl, by rw [hb3.block g1 (Array.getElem?_eq_some_iff.1 hg1).1]; exact hg1, rfl⟩
  have HB3 : Hid _ := hB3
  clear hB3 hB2 hb3 hb2 hg1 hg2 q6 q9 q10 r6 r9 r10
  go_wp2
  go_ret
  exact ⟨_, rfl, HE.out, HB3.out⟩
theorem state_cl (g K M C V n len : Nat) (obj last : Value) (br : Bool) (fk fw : Int) (w : World) (hg : w.heap[g]? = some (.cells (dZ K M C V obj last n len br fk fw true) 252 (0, 0))) :
    Calls Tryz.prog 148 #[.pointer (some ⟨g, 0, none⟩)] w fun e w' => ∃ v, e = .returned v ∧ ErrAt w' v [(5, (n : Int))] ∧ Below w.heap.size w w' := by
  have c6 : w.cell? ⟨g, 6, none⟩ = some (.int .i64 n) := cell_of_row _ _ _ _ 252 _ hg
  have c11 : w.cell? ⟨g, 11, none⟩ = some (.bool true) := cell_of_row _ _ _ _ 252 _ hg
  clear hg
  go_enter Tryz.func148, Tryz.ntmps148
  go_wp2_with fail
  refine (at_err _ _ _).mono ?_
  rintro e w1 ⟨g1, rfl, h1, hb⟩
  have HE : Hid (ErrAt w1 (.iface 305 (.pointer (some ⟨g1, 0, none⟩))) [(5, (n : Int))]) := ⟨g1, _, rfl, h1, rfl⟩
  have HB : Hid _ := hb
  clear h1 hb
  go_wp2
  go_ret
  exact ⟨_, rfl, HE.out, HB.out⟩
theorem state_br (g K M C V n len : Nat) (obj last : Value) (fk fw : Int) (w : World) (hg : w.heap[g]? = some (.cells (dZ K M C V obj last n len true fk fw false) 252 (0, 0))) :
    Calls Tryz.prog 148 #[.pointer (some ⟨g, 0, none⟩)] w fun e w' => ∃ v, e = .returned v ∧ ErrAt w' v [(5, (n : Int)), (fk, fw)] ∧ Below w.heap.size w w' := by
  have H : Hid _ := overFirst_any 5 g K M C V n len obj last true false fk fw w hg
  have c8 : w.cell? ⟨g, 8, none⟩ = some (.bool true) := cell_of_row _ _ _ _ 252 _ hg
  have c11 : w.cell? ⟨g, 11, none⟩ = some (.bool false) := cell_of_row _ _ _ _ 252 _ hg
  clear hg
  go_enter Tryz.func148, Tryz.ntmps148
  go_wp2_with fail
  refine Calls.mono H.out ?_
  rintro e w1 ⟨v, rfl, hE, hb⟩
  have HE : Hid _ := hE
  have HB : Hid _ := hb
  clear hE hb
  go_wp2
  go_ret
  exact ⟨_, rfl, HE.out, HB.out⟩
theorem breakOff_any (k i : Int) (g K M C V n len : Nat) (obj last : Value) (br cl : Bool) (fk fw : Int) (w : World) (hg : w.heap[g]? = some (.cells (dZ K M C V obj last n len br fk fw cl) 252 (0, 0))) :
    Calls Tryz.prog 149 #[.pointer (some ⟨g, 0, none⟩), .int .i64 k, .int .i64 i] w fun e w' => ∃ v, e = .returned v ∧ ErrAt w' v [(k, i)] ∧ w'.heap[g]? = some (.cells (dZ K M C V (.map none) (.pointer none) n len true k i cl) 252 (0, 0)) ∧ Fr (· = g) w w' := by
  have c4 : w.cell? ⟨g, 4, none⟩ = some obj := cell_of_row _ _ _ _ 252 _ hg
  have c5 : w.cell? ⟨g, 5, none⟩ = some last := cell_of_row _ _ _ _ 252 _ hg
  have c8 : w.cell? ⟨g, 8, none⟩ = some (.bool br) := cell_of_row _ _ _ _ 252 _ hg
  have c9 : w.cell? ⟨g, 9, none⟩ = some (.int .i64 fk) := cell_of_row _ _ _ _ 252 _ hg
  have c10 : w.cell? ⟨g, 10, none⟩ = some (.int .i64 fw) := cell_of_row _ _ _ _ 252 _ hg
  have f8 : w.frozen? ⟨g, 8, none⟩ = false := frozen_of_row _ _ _ _ 252 hg
  have f9 : w.frozen? ⟨g, 9, none⟩ = false := frozen_of_row _ _ _ _ 252 hg
  have f10 : w.frozen? ⟨g, 10, none⟩ = false := frozen_of_row _ _ _ _ 252 hg
  have hgl : g < w.heap.size := (Array.getElem?_eq_some_iff.1 hg).1
  obtain ⟨W, hW⟩ : ∃ W, ((w.setCell ⟨g, 8, none⟩ (.bool true)).setCell ⟨g, 9, none⟩ (.int .i64 k)).setCell ⟨g, 10, none⟩ (.int .i64 i) = W := ⟨_, rfl⟩
  have hgW : W.heap[g]? = some (.cells (dZ K M C V obj last n len true k i cl) 252 (0, 0)) := by
    rw [← hW]
    have h1 := set_heap w g 8 (.bool true) _ _ _ hg
    have h2 := set_heap _ g 9 (.int .i64 k) _ _ _ h1
    have h3 := set_heap _ g 10 (.int .i64 i) _ _ _ h2
    simpa [dZ] using h3
  have HFR : Hid (Fr (· = g) w W) := by
    show Fr _ _ _
    rw [← hW]; exact (((Fr.refl (fun x => x = g) w).set (g := g) (.inl rfl) 8 _).set (g := g) (.inl rfl) 9 _).set (g := g) (.inl rfl) 10 _
  have HL : Hid _ := letGo_any g W obj last (cell_of_row _ _ _ _ 252 _ hgW) (cell_of_row _ _ _ _ 252 _ hgW) (fun j => frozen_of_row _ _ _ _ 252 hgW)
  have HW2 : Hid (((W.setCell ⟨g, 4, none⟩ (.map none)).setCell ⟨g, 5, none⟩ (.pointer none)).heap[g]? = some (.cells (dZ K M C V (.map none) (.pointer none) n len true k i cl) 252 (0, 0))) := by
    have h1 := set_heap W g 4 (.map none) _ _ _ hgW
    have h2 := set_heap _ g 5 (.pointer none) _ _ _ h1
    exact h2
  have HF2 : Hid (Fr (· = g) w ((W.setCell ⟨g, 4, none⟩ (.map none)).setCell ⟨g, 5, none⟩ (.pointer none))) := (HFR.out.set (g := g) (.inl rfl) 4 _).set (g := g) (.inl rfl) 5 _
  clear hg hgW HFR
  go_enter Tryz.func149, Tryz.ntmps149
  go_wp2_with fail
  refine Calls.mono HL.out ?_
  rintro e w1 ⟨rfl, hw1⟩
  rw [← hw1] at HW2 HF2
  clear hw1 HL c4 c5 c8 c9 c10 f8 f9 f10
  go_wp2_with fail
  refine (at_err _ _ _).mono ?_
  rintro e w2 ⟨g1, rfl, h1, hb⟩
  have HE : Hid (ErrAt w2 (.iface 305 (.pointer (some ⟨g1, 0, none⟩))) [(k, i)]) := ⟨g1, _, rfl, h1, rfl⟩
  have HG : Hid (w2.heap[g]? = some (.cells (dZ K M C V (.map none) (.pointer none) n len true k i cl) 252 (0, 0))) := by
    show _ = _
    rw [hb.block g (Array.getElem?_eq_some_iff.1 HW2.out).1]; exact HW2.out
  have HF : Hid (Fr (· = g) w w2) := HF2.out.thenBelow hb
  clear h1 hb
  go_wp2
  go_ret
  exact ⟨_, rfl, HE.out, HG.out, HF.out⟩
end Go.Proofs.YtadinjaocnlglaaGreatDoor
namespace Go.Proofs.YtadinjaocnlglaaGreatDoor
/-- a Writer -/
structure AW where
  K : Nat
  M : Nat
  C : Nat
  V : Nat
  ob : List (ByteArray × ByteArray)
  br : Option (Int × Int)
  cl : Bool
def sumL (l : List (ByteArray × ByteArray)) : Nat := (l.map fun o => o.2.size).sum
def AW.n (A : AW) : Nat := A.ob.length
def AW.tot (A : AW) : Nat := sumL A.ob
/-- ErrState of P8 and P9 -/
def AW.state (A : AW) : List (Int × Int) :=
  if A.cl then [(5, (A.n : Int))] else match A.br with
  | some m => [(5, (A.n : Int)), m]
  | none => []
def idxL (s : ByteArray) : List (ByteArray × ByteArray) → Option Nat
  | [] => none
  | o :: l => if o.1 = s then some 0 else (idxL s l).map (· + 1)
/-- what Begin answers -/
def AW.bgE (A : AW) (s : ByteArray) : List (Int × Int) :=
  if A.state = [] then
    if s.size < 1 ∨ 255 < s.size then [(2, (A.n : Int))] else match idxL s A.ob with
    | some i => [(3, (i : Int))]
    | none => if A.n = 16 then [(4, 16)] else []
  else A.state
/-- the Writer behind a Begin -/
def AW.bgA (A : AW) (s : ByteArray) : AW :=
  if A.state = [] then match A.bgE s with
    | m :: _ => { A with br := some m }
    | [] => { A with ob := A.ob ++ [(s, ⟨#[]⟩)] }
  else A
def addL (t : ByteArray) : List (ByteArray × ByteArray) → List (ByteArray × ByteArray)
  | [] => []
  | [o] => [(o.1, o.2 ++ t)]
  | o :: p :: l => o :: addL t (p :: l)
/-- what Write answers -/
def AW.wrE (A : AW) (t : ByteArray) : List (Int × Int) :=
  if A.state = [] then
    if A.n = 0 then [(5, -1)] else if 4096 < A.tot + t.size then [(4, (A.tot : Int))] else []
  else A.state
/-- the Writer behind a Write -/
def AW.wrA (A : AW) (t : ByteArray) : AW :=
  if A.state = [] then
    if A.n = 0 then A else if 4096 < A.tot + t.size then { A with br := some (4, (A.tot : Int)) } else { A with ob := addL t A.ob }
  else A
/-- how many blocks there would be -/
def AW.nb (A : AW) : Nat := (A.tot + A.K * A.C - 1) / (A.K * A.C) * (A.K + A.M)
/-- what Close answers -/
def AW.clE (A : AW) : List (Int × Int) :=
  if A.cl then [(5, (A.n : Int))] else match A.br with
  | some m => [(6, (A.n : Int)), m]
  | none => if 512 < A.nb then [(4, (A.nb : Int))] else []
def AW.clA (A : AW) : AW := { A with cl := true }
/-- what holds of every Writer -/
structure AW.ok (A : AW) : Prop where
  K1 : 1 ≤ A.K
  KM : A.K + A.M ≤ 255
  C1 : 1 ≤ A.C
  C2 : A.C ≤ 64
  V1 : 1 ≤ A.V
  V2 : A.V ≤ 16
  n16 : A.n ≤ 16
  tot : A.tot ≤ 4096
  nm : ∀ o ∈ A.ob, 1 ≤ o.1.size ∧ o.1.size ≤ 255
  nd : (A.ob.map (·.1)).Nodup
theorem sumL_app (l r : List (ByteArray × ByteArray)) : sumL (l ++ r) = sumL l + sumL r := by simp [sumL]
theorem addL_len (t : ByteArray) : ∀ l, (addL t l).length = l.length
  | [] => rfl
  | [_] => rfl
  | o :: p :: l => by have := addL_len t (p :: l); simp [addL] at this ⊢; exact this
theorem addL_snoc (t : ByteArray) (o : ByteArray × ByteArray) : ∀ l, addL t (l ++ [o]) = l ++ [(o.1, o.2 ++ t)]
  | [] => rfl
  | [p] => rfl
  | p :: q :: l => by have := addL_snoc t o (q :: l); simp [addL] at this ⊢; exact this
theorem addL_names (t : ByteArray) : ∀ l, (addL t l).map (·.1) = l.map (·.1)
  | [] => rfl
  | [_] => rfl
  | o :: p :: l => by have := addL_names t (p :: l); simp [addL] at this ⊢; exact this
theorem snoc_of {l : List (ByteArray × ByteArray)} (h : l.length ≠ 0) : ∃ r o, l = r ++ [o] := by
  have hne : l ≠ [] := fun e => h (by rw [e]; rfl)
  exact ⟨l.dropLast, l.getLast hne, (List.dropLast_concat_getLast hne).symm⟩
theorem addL_sum (t : ByteArray) (l : List (ByteArray × ByteArray)) (h : l.length ≠ 0) : sumL (addL t l) = sumL l + t.size := by
  obtain ⟨r, o, rfl⟩ := snoc_of h
  rw [addL_snoc, sumL_app, sumL_app]; simp [sumL, ByteArray.size_append]; omega
theorem idxL_none {s : ByteArray} : ∀ {l : List (ByteArray × ByteArray)}, idxL s l = none → s ∉ l.map (·.1)
  | [], _ => by simp
  | o :: l, h => by
    unfold idxL at h
    split at h
    · cases h
    · rename_i hne
      have h' : idxL s l = none := by simpa using h
      have := idxL_none h'
      simp only [List.map_cons, List.mem_cons, not_or]
      exact ⟨fun e => hne e.symm, this⟩
theorem idxL_some {s : ByteArray} : ∀ {l : List (ByteArray × ByteArray)} {i : Nat}, idxL s l = some i → i < l.length ∧ (l[i]?).map (·.1) = some s ∧ ∀ j, j < i → (l[j]?).map (·.1) ≠ some s
  | [], i, h => by simp [idxL] at h
  | o :: l, i, h => by
    unfold idxL at h
    split at h
    · rename_i he
      cases h
      exact ⟨by simp, by simp [he], fun j hj => by omega⟩
    · rename_i hne
      obtain ⟨k, hk, rfl⟩ := Option.map_eq_some_iff.1 h
      obtain ⟨h1, h2, h3⟩ := idxL_some hk
      refine ⟨by simp; omega, by simpa using h2, fun j hj => ?_⟩
      cases j with
      | zero => simp; exact hne
      | succ j => simpa using h3 j (by omega)
theorem state_nil {A : AW} (h : A.state = []) : A.cl = false ∧ A.br = none := by
  unfold AW.state at h
  cases hc : A.cl with
  | true => simp [hc] at h
  | false =>
    cases hb : A.br with
    | none => exact ⟨rfl, rfl⟩
    | some m => simp [hc, hb] at h
theorem AW.ok.bg {A : AW} (h : A.ok) (s : ByteArray) : (A.bgA s).ok := by
  unfold AW.bgA
  split
  · rename_i hs
    split
    · exact ⟨h.K1, h.KM, h.C1, h.C2, h.V1, h.V2, h.n16, h.tot, h.nm, h.nd⟩
    · rename_i he
      unfold AW.bgE at he
      rw [if_pos hs] at he
      split at he
      · cases he
      · rename_i hsz
        split at he
        · cases he
        · rename_i hi
          split at he
          · cases he
          · rename_i hn
            have hn16 := h.n16
            refine ⟨h.K1, h.KM, h.C1, h.C2, h.V1, h.V2, ?_, ?_, ?_, ?_⟩
            · unfold AW.n at *; simp; omega
            · have := h.tot
              have e0 : sumL [(s, (⟨#[]⟩ : ByteArray))] = 0 := rfl
              show sumL (A.ob ++ [(s, (⟨#[]⟩ : ByteArray))]) ≤ 4096
              rw [sumL_app, e0]; unfold AW.tot at this; omega
            · intro o ho
              rcases List.mem_append.1 ho with ho | ho
              · exact h.nm o ho
              · simp at ho; subst ho; show 1 ≤ s.size ∧ s.size ≤ 255; omega
            · have := idxL_none hi
              show ((A.ob ++ [(s, (⟨#[]⟩ : ByteArray))]).map fun o => o.1).Nodup
              rw [List.map_append, List.nodup_append]
              refine ⟨h.nd, by simp, ?_⟩
              intro a ha b hb e
              simp at hb
              subst hb
              subst e
              exact this ha
  · exact h
theorem AW.ok.wr {A : AW} (h : A.ok) (t : ByteArray) : (A.wrA t).ok := by
  unfold AW.wrA
  split
  · split
    · exact h
    · rename_i hn
      split
      · exact ⟨h.K1, h.KM, h.C1, h.C2, h.V1, h.V2, h.n16, h.tot, h.nm, h.nd⟩
      · rename_i ht
        refine ⟨h.K1, h.KM, h.C1, h.C2, h.V1, h.V2, ?_, ?_, ?_, ?_⟩
        · have := h.n16; unfold AW.n at *; simp only [addL_len]; exact this
        · have := h.tot; unfold AW.tot at *; rw [addL_sum t A.ob hn]; omega
        · intro o ho
          have hm : o.1 ∈ (addL t A.ob).map (·.1) := List.mem_map.2 ⟨o, ho, rfl⟩
          rw [addL_names] at hm
          obtain ⟨p, hp, e⟩ := List.mem_map.1 hm
          have := h.nm p hp
          rw [e] at this; exact this
        · show ((addL t A.ob).map (·.1)).Nodup
          rw [addL_names]; exact h.nd
  · exact h
theorem AW.ok.clo {A : AW} (h : A.ok) : A.clA.ok := ⟨h.K1, h.KM, h.C1, h.C2, h.V1, h.V2, h.n16, h.tot, h.nm, h.nd⟩
end Go.Proofs.YtadinjaocnlglaaGreatDoor
namespace Go.Proofs.YtadinjaocnlglaaGreatDoor
open Go.RowKit
set_option maxRecDepth 100000
set_option maxHeartbeats 1000000
theorem grow_nil (n : Nat) (w : World) (hn0 : 0 < n) (hn : n ≤ 1000000) :
    Calls Tryz.prog 286 #[.slice none 0 0, .int .i64 n] w fun e w' => ∃ v, e = .returned v ∧ w'.ownsRow w.heap.size 9 1 v 0 [] ∧ Below w.heap.size w w' := by
  obtain ⟨i0, hi0, hz0, hz1, hz2⟩ := info_parts info9
  have hrz : ∀ ty, (Builtin.append_ #[42, 3] ty #[.slice none 0 0, .int .i64 n]).run Tryz.prog w = .ok (.slice (some ⟨w.heap.size, 0, none⟩) n (grownCap w n 0 9)) (w.drew.alloc (.cells (#[] ++ Builtin.zeroCells #[.string ⟨#[]⟩] n ++ Builtin.zeroCells #[.string ⟨#[]⟩] (grownCap w n 0 9 - n)) 9)) := fun ty => by
    have h := Lib.run_append_grow_zeros (P := Tryz.prog) w 42 3 ty 9 i0 (.string ⟨#[]⟩) .i64 .i64 Tryz.underlying42 Tryz.underlying3 hi0 hz0 none 0 0 [] (by rw [hz1]; exact run_firstCells_none w.drew 1 0 0 0) n hn0 (by omega) (by omega) (by omega) (by rw [hz2]; omega) (by rw [Nat.zero_add, hz2]; exact growslice_fits (by omega) (by omega))
    rw [Nat.zero_add] at h
    exact h
  have hge : n ≤ grownCap w n 0 9 := grownCap_ge w _ _ _
  have hmx : grownCap w n 0 9 ≤ maxLen := grownCap_le_maxLen w n 0 9 (by unfold maxLen; omega)
  obtain ⟨G, hG⟩ : ∃ G, G = grownCap w n 0 9 := ⟨_, rfl⟩
  rw [← hG] at hrz hge hmx
  have hG63 : G ≤ 9223372036854775807 := by unfold maxLen at hmx; omega
  have hgt : (0 : Int) < (n : Int) := by omega
  clear hG
  go_enter Tryz.func286, Tryz.ntmps286
  go_wp2_with (at_builtin; refine Lib.wpList_append_run _ rfl _ _ _ _ rfl _ _ rfl rfl _ _ (hrz _) ?_)
  go_ret
  refine ⟨_, rfl, ⟨rfl, .inr ⟨w.heap.size, G, _, rfl, Nat.le_refl _, heap_alloc_new _ _, by omega, hmx, ?_, by simp⟩⟩, ?_⟩
  · simp [Builtin.zeroCells]; omega
  · exact ((Below.refl _ _).alloc (Nat.le_refl _) _).drew
def tV (T : Nat → ByteArray) (n : Nat) : List Value := (List.range n).map fun i => .string (T i)
theorem tV_len (T : Nat → ByteArray) (n : Nat) : (tV T n).length = n := by simp [tV]
theorem tV_one (T : Nat → ByteArray) (n : Nat) : ∀ u ∈ tV T n, u.oneCell' = true := by
  intro u hu
  simp only [tV, List.mem_map] at hu
  obtain ⟨i, _, rfl⟩ := hu
  rfl
theorem tV_cells {w : World} {g n : Nat} {T : Nat → ByteArray} (h : ∀ i, i < n → w.cell? ⟨g, i, none⟩ = some (.string (T i))) : ∀ j u, (tV T n)[j]? = some u → w.cell? ((⟨g, 0, none⟩ : Addr).add j) = some u := fun j u hu => by
  have hj : j < n := by have := (List.getElem?_eq_some_iff.1 hu).1; rwa [tV_len] at this
  have e : (⟨g, 0, none⟩ : Addr).add j = ⟨g, j, none⟩ := by cases j with
    | zero => rfl
    | succ j => simp [Addr.add]
  rw [e, h j hj]
  simp [tV, hj] at hu
  rw [hu]
theorem concat_any (S T : Nat → ByteArray) (b d g k m cap cap2 : Nat) (w : World) (hk1 : 0 < k) (hk : k ≤ 1000) (hm : m ≤ 1000) (hd : d < w.heap.size) (hg : g < w.heap.size) (hb : b < w.heap.size)
    (hb0 : w.cell? ⟨b, 0, none⟩ = some (.slice (some ⟨d, 0, none⟩) k cap)) (hb1 : w.cell? ⟨b, 1, none⟩ = some (.slice (some ⟨g, 0, none⟩) m cap2))
    (hS : ∀ i, i < k → w.cell? ⟨d, i, none⟩ = some (.string (S i))) (hT : ∀ i, i < m → w.cell? ⟨g, i, none⟩ = some (.string (T i))) :
    Calls Tryz.prog 244 #[.slice (some ⟨b, 0, none⟩) 2 2] w fun e w' => ∃ v, e = .returned v ∧ w'.ownsRow w.heap.size 9 1 v (k + m) (tV S k ++ tV T m) ∧ Below w.heap.size w w' := by
  have HS : Hid _ := hS
  have HT : Hid _ := hT
  have HG : Hid _ := grow_nil (k + m) w (by omega) (by omega)
  obtain ⟨i0, hi9, hz0, hz1, hz2⟩ := info_parts info9
  clear hS hT
  have e0 : (k : Int) + (m : Int) = ((k + m : Nat) : Int) := by omega
  have HE : Hid _ := e0
  have hb1' := hb1
  have HB1' : Hid _ := hb1'
  clear e0 hb1'
  go_enter Tryz.func244, Tryz.ntmps244
  go_wp2
  refine wp_loop_rounds 3 ?_
  rw [rounds_succ]
  go_wp2
  rw [rounds_succ]
  go_wp2
  rw [rounds_succ]
  go_wp2_with fail
  rw [HE.out]
  refine Calls.mono HG.out ?_
  rintro e w1 ⟨v1, rfl, ho1, hB1⟩
  obtain ⟨a1, c1, hv⟩ := own_shape ho1
  subst hv
  have b0 : w1.cell? ⟨b, 0, none⟩ = some (.slice (some ⟨d, 0, none⟩) k cap) := (hB1.cell (p := ⟨b, 0, none⟩) hb).trans hb0
  have b1 : w1.cell? ⟨b, 1, none⟩ = some (.slice (some ⟨g, 0, none⟩) m cap2) := (hB1.cell (p := ⟨b, 1, none⟩) hb).trans hb1
  have HO1 : Hid (w1.ownsRow w.heap.size 9 1 (.slice a1 0 c1) 0 []) := ho1
  have HB1 : Hid (Below w.heap.size w w1) := hB1
  have hB' : w.heap.size ≤ w1.heap.size := hB1.size
  clear ho1 hB1 hb0 hb1 HG
  go_wp2
  refine wp_loop_rounds 3 ?_
  rw [rounds_succ]
  go_wp2_with (at_builtin; refine wpList_append_own_at _ rfl (.tmp 31) (.tmp 32) 42 rfl w.heap.size 9 i0 (.string ⟨#[]⟩) 1 16 Tryz.underlying42 hi9 hz0 hz1 hz2 rfl (by decide) _ 0 [] rfl HO1.out ⟨d, 0, none⟩ k cap (tV S k) rfl (by rw [tV_len]; omega) (tV_cells fun i hi => (HB1.out.cell (p := ⟨d, i, none⟩) hd).trans (HS.out i hi)) (tV_one _ _) ?kb ?kc hB' ?_)
  case kb => unfold maxLen; omega
  case kc => omega
  intro v2 w2 hown hgrow _ hblk
  have HO2 : Hid (w2.ownsRow w.heap.size 9 1 v2 k (tV S k)) := by first | exact hown | (have := hown; rw [Nat.zero_add, List.nil_append] at this; exact this)
  have HB2 : Hid (Below w.heap.size w w2) := HB1.out.grown hgrow hB' (fun g hg => own_ge HO1.out g hg)
  clear hown hgrow hblk HO1 HB1 hB' b0
  obtain ⟨a2, c2, hv⟩ := own_shape HO2.out
  subst hv
  have b1 : w2.cell? ⟨b, 1, none⟩ = some (.slice (some ⟨g, 0, none⟩) m cap2) := (HB2.out.cell (p := ⟨b, 1, none⟩) hb).trans HB1'.out
  have hB' : w.heap.size ≤ w2.heap.size := HB2.out.size
  go_wp2
  rw [rounds_succ]
  go_wp2_with (at_builtin; refine wpList_append_own_at _ rfl (.tmp 31) (.tmp 32) 42 rfl w.heap.size 9 i0 (.string ⟨#[]⟩) 1 16 Tryz.underlying42 hi9 hz0 hz1 hz2 rfl (by decide) _ k (tV S k) rfl HO2.out ⟨g, 0, none⟩ m cap2 (tV T m) rfl (by rw [tV_len]; omega) (tV_cells fun i hi => (HB2.out.cell (p := ⟨g, i, none⟩) hg).trans (HT.out i hi)) (tV_one _ _) ?kb ?kc hB' ?_)
  case kb => unfold maxLen; omega
  case kc => omega
  intro v3 w3 hown hgrow _ hblk
  have HO3 : Hid (w3.ownsRow w.heap.size 9 1 v3 (k + m) (tV S k ++ tV T m)) := hown
  have HB3 : Hid (Below w.heap.size w w3) := HB2.out.grown hgrow hB' (fun g hg => own_ge HO2.out g hg)
  clear hown hgrow hblk HO2 HB2 hB' b1
  go_wp2
  rw [rounds_succ]
  go_wp2
  go_ret
  exact ⟨_, rfl, HO3.out, HB3.out⟩
end Go.Proofs.YtadinjaocnlglaaGreatDoor
