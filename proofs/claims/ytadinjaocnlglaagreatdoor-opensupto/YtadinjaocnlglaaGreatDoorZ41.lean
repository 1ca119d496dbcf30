/-
  The walk of a book's keepI.
  A hall: its vaults, both sides of each, and its book.
  The walk of a book's keepE.
  The walk of a book's keepT.
  The walk of a book's keepO.
-/
import Derived.Test.YtadinjaocnlglaaGreatDoorZ40
import Derived.Test.YtadinjaocnlglaaGreatDoorZ39
import Derived.Test.YtadinjaocnlglaaGreatDoorZ31
import Derived.Test.YtadinjaocnlglaaGreatDoorZ33
import Derived.Test.YtadinjaocnlglaaGreatDoorZ08
import Derived.Test.YtadinjaocnlglaaGreatDoorZ14
namespace Go.Proofs.YtadinjaocnlglaaGreatDoor
open Go.RowKit
set_option maxRecDepth 100000
set_option maxHeartbeats 4000000
theorem info193 : (Tryz.prog.info? 193).map (fun i => (i.zero, i.size, i.bytes)) = some (some (.agg #[.slice none 0 0, .slice none 0 0, .slice none 0 0, .slice none 0 0, .int .i64 0]), 5, 104) := by kernel_rfl
def KeptI (base B : Nat) (l0 lo : Value) (bk : Bk) (l : Value) (w w' : World) : Prop :=
 ∃ x : Ent, BkI base B l0 lo { bk with n := bk.n + 1, I := bk.I ++ [x] } w' ∧ (∀ q, x.has q → l.ownBlock = some q ∨ w.heap.size ≤ q) ∧ Kz 193 l.ownBlock w w' ∧ Below base w w'
theorem keepI (base B : Nat) (l0 lo : Value) (bk : Bk) (l : Value) (n : Nat) (xs : List Value) (w : World) (H : BkI base B l0 lo bk w) (ho : w.ownsRow base 3 1 l n xs) (hx : ∀ q, l.ownBlock = some q → ¬ bk.has q) (hbw : base ≤ w.heap.size) (hBb : base ≤ B) (hn : n ≤ 1000000000) (hbn : bk.n ≤ 100000000000) (hbl : bk.I.length ≤ 100000000000) :
  Calls Tryz.prog 164 #[.pointer (some ⟨B, 1, none⟩), l] w fun e w' => e = .returned (.tuple #[]) ∧ KeptI base B l0 lo bk l w w' := by
 have HH : Hid _ := H
 obtain ⟨vT, vI, vO, vE, h1, h2, h3, h4, h5⟩ := H.row
 have o0 : w.cell? ⟨B, 1, none⟩ = some (.int .i64 bk.n) := cell_of_row _ _ _ _ 50 _ h1
 have f0 : w.frozen? ⟨B, 1, none⟩ = false := frozen_of_row w B 1 _ 50 h1
 obtain ⟨W1, hW1⟩ : ∃ W1, w.setCell ⟨B, 1, none⟩ (.int .i64 ((bk.n : Int) + 1)) = W1 := ⟨_, rfl⟩
 have k1 : W1.heap[B]? = some (.cells #[l0, .int .i64 ((bk.n : Int) + 1), vT, vI, vO, vE, lo] 50 (0, 0)) := by rw [← hW1]; exact set_heap _ _ _ _ _ _ _ h1
 have o1 : W1.cell? ⟨B, 1, none⟩ = some (.int .i64 ((bk.n : Int) + 1)) := cell_of_row _ _ _ _ 50 _ k1
 have k2 : W1.ownsRow base 193 5 vI bk.I.length (flatG bk.I) := by rw [← hW1]; exact own_kept' h3 (fun j cs _ hj => by rw [set_other _ _ _ _ _ (row_ne hj h1 (by decide))]; exact hj)
 have k3 : W1.ownsRow base 3 1 l n xs := by rw [← hW1]; exact own_kept' ho (fun j cs _ hj => by rw [set_other _ _ _ _ _ (row_ne hj h1 (by decide))]; exact hj)
 have k4 : Kz 193 l.ownBlock w W1 := by rw [← hW1]; exact Kz.set h1 (.inl rfl) _ _
 have k5 : Below base w W1 := by rw [← hW1]; exact (Below.refl _ _).setCell (p := ⟨B, 1, none⟩) hBb _
 obtain ⟨al, cl, hsl⟩ := own_shape ho
 have hxl : xs.length = n * 1 := ho.1
 have HX : Hid _ := hx
 have HO : Hid (w.ownsRow base 3 1 l n xs) := ho
 have HROW : Hid _ := And.intro h2 (And.intro h3 (And.intro h4 h5))
 clear H h1 h2 h3 h4 h5 ho hx
 have K1 : Hid _ := k1
 have K2 : Hid _ := k2
 have K3 : Hid _ := k3
 have K4 : Hid (Kz 193 l.ownBlock w W1) := k4
 have K5 : Hid _ := k5
 clear k1 k2 k3 k4 k5
 subst hsl
 obtain ⟨W, hW⟩ : ∃ W, W1 = W := ⟨_, rfl⟩
 subst hW
 go_enter Tryz.func164, Tryz.ntmps164
 go_wp2_with fail
 go_loopw [5] (fun iv wr => ∃ i : Nat, i ≤ n ∧ iv = .int .i64 i ∧ wr.heap[B]? = some (.cells #[l0, .int .i64 ((bk.n : Int) + 1), vT, vI, vO, vE, lo] 50 (0, 0)) ∧ wr.ownsRow base 193 5 vI bk.I.length (flatG bk.I) ∧ wr.ownsRow base 3 1 (.slice al n cl) n (repG [.int .i64 (-((bk.n : Int) + 1))] i ++ xs.drop i) ∧ Kz 193 (Value.slice al n cl).ownBlock W1 wr ∧ Below base W1 wr) (fun iv _ => n - (intOf iv).toNat)
 case atStart => exact ⟨0, Nat.zero_le _, rfl, K1.out, K2.out, K3.out, Kz.refl _ _ _, Below.refl _ _⟩
 case round =>
  obtain ⟨i, hi, rfl, r1, r2, r3, r4, r5⟩ := hrel
  by_cases hlt : i < n
  ·have hlt' : (i : Int) < (n : Int) := by omega
   have hi0 : (0 : Int) ≤ (i : Int) := by omega
   obtain ⟨g, rfl⟩ : ∃ g, al = some ⟨g, 0, none⟩ := by
    rcases r3.2 with ⟨e, e0⟩ | ⟨g, cap, cur, e, _⟩
    ·omega
    ·exact ⟨g, by cases e; rfl⟩
   obtain ⟨p1, p2, x0, p3⟩ := own_putG r3 (p := i) (by omega) (.int .i64 (-((bk.n : Int) + 1)))
   rw [rep_set1 _ xs i n hlt (by omega)] at p1
   have hgB : g ≠ B := row_ne (own_type r3 g rfl).choose_spec r1 (by decide)
   have P1 : Hid _ := p1
   have R1 : Hid ((wr.setCell ⟨g, i, none⟩ (.int .i64 (-((bk.n : Int) + 1)))).heap[B]? = some (.cells #[l0, .int .i64 ((bk.n : Int) + 1), vT, vI, vO, vE, lo] 50 (0, 0))) := by show _ = _; rw [set_other _ _ _ _ _ hgB.symm]; exact r1
   have R2 : Hid ((wr.setCell ⟨g, i, none⟩ (.int .i64 (-((bk.n : Int) + 1)))).ownsRow base 193 5 vI bk.I.length (flatG bk.I)) := own_kept' r2 (fun j cs _ hj => by rw [set_other _ _ _ _ _ (row_ne hj (own_type r3 g rfl).choose_spec (by decide))]; exact hj)
   have R4 : Hid (Kz 193 (some g) W1 (wr.setCell ⟨g, i, none⟩ (.int .i64 (-((bk.n : Int) + 1))))) := Kz.setz r4 _ _
   have R5 : Hid (Below base W1 (wr.setCell ⟨g, i, none⟩ (.int .i64 (-((bk.n : Int) + 1))))) := r5.setCell (p := ⟨g, i, none⟩) (own_ge r3 g rfl) _
   clear p1 r1 r2 r3 r4 r5
   go_wp2_with fail
   go_roundw
   case rel => exact ⟨i + 1, by omega, by go_num, R1.out, R2.out, P1.out, R4.out, R5.out⟩
   case measure => simp [intOf]; omega
  ·obtain rfl : i = n := by omega
   have hlt' : ¬ (i : Int) < (i : Int) := by omega
   have r3' : wr.ownsRow base 3 1 (.slice al i cl) i (repG [.int .i64 (-((bk.n : Int) + 1))] i) := by
    rw [List.drop_eq_nil_of_le (by omega), List.append_nil] at r3; exact r3
   have ka := KA.start (m := .int .i64 (-((bk.n : Int) + 1))) r1 r2 r3' r4 r5 (Nat.le_trans hbw K5.out.size)
   obtain ⟨i0, hi0, z0, z1, z2⟩ := info_parts info3
   obtain ⟨j0, hj0, y0, y1, y2⟩ := info_parts info193
   obtain ⟨w3, hw3⟩ : ∃ w3, wr.alloc (.cells #[.slice al i cl, .slice none 0 0, .slice none 0 0, .slice none 0 0, .int .i64 (-((bk.n : Int) + 1))] 193) = w3 := ⟨_, rfl⟩
   obtain ⟨x0, hx0⟩ : ∃ x0, wr.heap.size = x0 := ⟨_, rfl⟩
   rw [hw3, hx0] at ka
   have KA0 : Hid _ := ka
   clear ka r1 r2 r3 r3' r4 r5
   go_upto_region 7 with fail
   try rw [hw3]
   try rw [hx0]
   clear hw3 hx0
   obtain ⟨v1, u1, hr1, hrow, ⟨a1, c1, rfl⟩, ka1, _, _⟩ := KA0.out.app (tS := 39) Tryz.underlying39 hi0 z0 z1 z2 rfl (by decide) rfl (by intro u hu; simp at hu; first | (subst hu; rfl) | (rcases hu with rfl | rfl <;> rfl)) (by decide) (by decide) (by decide) hn (by decide) (k' := 1) (by omega) (by omega) #[.int .i64 (-((bk.n : Int) + 1))] rfl
   have q0 : u1.cell? ⟨x0, 1, none⟩ = some (.slice none 0 0) := cell_of_row _ _ _ _ 193 _ hrow
   have q9 : u1.frozen? ⟨x0, 1, none⟩ = false := frozen_of_row _ _ _ _ 193 hrow
   have HR : Hid _ := hr1
   have KA1 : Hid _ := ka1
   clear hr1 hrow ka1
   go_upto_region 8 with (at_builtin; refine wpList_app rfl (.tmp 32) (.tmp 34) 39 rfl _ _ _ (by simp [Act.eval]) (by simp [Act.eval]) _ HR.out ?_)
   clear q0 q9 HR
   obtain ⟨w4, hw4⟩ : ∃ X, u1.setCell ⟨x0, 1, none⟩ (.slice a1 (i + 1) c1) = X := ⟨_, rfl⟩
   rw [hw4] at KA1
   rw [hw4]
   clear hw4 KA0
   obtain ⟨v2, u2, hr2, hrow, ⟨a2, c2, rfl⟩, _, ka1, _⟩ := KA1.out.app (tS := 39) Tryz.underlying39 hi0 z0 z1 z2 rfl (by decide) rfl (by intro u hu; simp at hu; first | (subst hu; rfl) | (rcases hu with rfl | rfl <;> rfl)) (by decide) (by decide) (by decide) hn (by decide) (k' := 2) (by omega) (by omega) #[.int .i64 (-((bk.n : Int) + 1)), .int .i64 (-((bk.n : Int) + 1))] rfl
   have q0 : u2.cell? ⟨x0, 2, none⟩ = some (.slice none 0 0) := cell_of_row _ _ _ _ 193 _ hrow
   have q9 : u2.frozen? ⟨x0, 2, none⟩ = false := frozen_of_row _ _ _ _ 193 hrow
   have HR : Hid _ := hr2
   have KA2 : Hid _ := ka1
   clear hr2 hrow ka1
   go_upto_region 9 with (at_builtin; refine wpList_app rfl (.tmp 37) (.tmp 40) 39 rfl _ _ _ (by simp [Act.eval]) (by simp [Act.eval]) _ HR.out ?_)
   clear q0 q9 HR
   obtain ⟨w5, hw5⟩ : ∃ X, u2.setCell ⟨x0, 2, none⟩ (.slice a2 (i + 2) c2) = X := ⟨_, rfl⟩
   rw [hw5] at KA2
   rw [hw5]
   clear hw5 KA1
   obtain ⟨v3, u3, hr3, hrow, ⟨a3, c3, rfl⟩, _, _, ka1⟩ := KA2.out.app (tS := 39) Tryz.underlying39 hi0 z0 z1 z2 rfl (by decide) rfl (by intro u hu; simp at hu; first | (subst hu; rfl) | (rcases hu with rfl | rfl <;> rfl)) (by decide) (by decide) (by decide) hn (by decide) (k' := 3) (by omega) (by omega) #[.int .i64 (-((bk.n : Int) + 1)), .int .i64 (-((bk.n : Int) + 1)), .int .i64 (-((bk.n : Int) + 1))] rfl
   have q0 : u3.cell? ⟨x0, 3, none⟩ = some (.slice none 0 0) := cell_of_row _ _ _ _ 193 _ hrow
   have q9 : u3.frozen? ⟨x0, 3, none⟩ = false := frozen_of_row _ _ _ _ 193 hrow
   have HR : Hid _ := hr3
   have KA3 : Hid _ := ka1
   clear hr3 hrow ka1
   go_upto_region 10 with (at_builtin; refine wpList_app rfl (.tmp 43) (.tmp 47) 39 rfl _ _ _ (by simp [Act.eval]) (by simp [Act.eval]) _ HR.out ?_)
   clear q0 q9 HR
   obtain ⟨w6, hw6⟩ : ∃ X, u3.setCell ⟨x0, 3, none⟩ (.slice a3 (i + 3) c3) = X := ⟨_, rfl⟩
   rw [hw6] at KA3
   rw [hw6]
   clear hw6 KA2
   obtain ⟨v8, w8, hr8, ⟨a8, c8, rfl⟩, hB8, b1, b2, _, b3, b4, b5, b6, b7, b8, b9, b10⟩ := KA3.out.fin (tS5 := 28) Tryz.underlying28 hj0 y0 y1 (by rw [y2]; decide) rfl (by intro u hu; simp at hu; rcases hu with rfl | rfl | rfl | rfl | rfl <;> rfl) (by decide) (by decide) (by decide) hbl hBb 3
   obtain ⟨av, cv, hsv⟩ := own_shape KA3.out.own
   subst hsv
   have e0 : w6.cell? ⟨x0, 0, none⟩ = some (.slice al i cl) := cell_of_row _ _ _ _ 193 _ KA3.out.row
   have e1 : w6.cell? ⟨x0, 1, none⟩ = some (.slice a1 (i + 1) c1) := cell_of_row _ _ _ _ 193 _ KA3.out.row
   have e2 : w6.cell? ⟨x0, 2, none⟩ = some (.slice a2 (i + 2) c2) := cell_of_row _ _ _ _ 193 _ KA3.out.row
   have e3 : w6.cell? ⟨x0, 3, none⟩ = some (.slice a3 (i + 3) c3) := cell_of_row _ _ _ _ 193 _ KA3.out.row
   have e4 : w6.cell? ⟨x0, 4, none⟩ = some (.int .i64 (-((bk.n : Int) + 1))) := cell_of_row _ _ _ _ 193 _ KA3.out.row
   have p0 : w6.cell? ⟨B, 3, none⟩ = some (.slice av bk.I.length cv) := cell_of_row _ _ _ _ 50 _ KA3.out.hall
   have p1 : w8.cell? ⟨B, 3, none⟩ = some (.slice av bk.I.length cv) := cell_of_row _ _ _ _ 50 _ hB8
   have p2 : w8.frozen? ⟨B, 3, none⟩ = false := frozen_of_row _ _ _ _ 50 hB8
   have pz : (w6.alloc (.cells #[.slice al i cl, .slice a1 (i + 1) c1, .slice a2 (i + 2) c2, .slice a3 (i + 3) c3, .int .i64 (-((bk.n : Int) + 1))] 193)).cell? ⟨B, 3, none⟩ = some (.slice av bk.I.length cv) := by rw [World.cell?_alloc_lt _ _ _ (block_lt_of_cell p0)]; exact p0
   have HR8 : Hid _ := hr8
   have HEND : Hid (KeptI base B l0 lo bk (.slice al i cl) w (w8.setCell ⟨B, 3, none⟩ (.slice a8 (bk.I.length + 1) c8))) := by
    have hK := K4.out.trans b9
    have hsz : w.heap.size ≤ (w8.setCell ⟨B, 3, none⟩ (.slice a8 (bk.I.length + 1) c8)).heap.size := (K5.out.trans b10).size
    have hoth : ∀ (j : Nat) (cs : Array Value) (t : TypeId), w.heap[j]? = some (.cells cs t (0, 0)) → t ≠ 50 → t ≠ 193 → t ≠ 3 → (w8.setCell ⟨B, 3, none⟩ (.slice a8 (bk.I.length + 1) c8)).heap[j]? = some (.cells cs t (0, 0)) := fun j cs t hj h50 h5 hE => hK j cs t hj h50 h5 (fun e => by
     obtain ⟨cur, hcur⟩ := own_type HO.out j e
     exact row_ne hj hcur hE rfl)
    have hent : ∀ (q : Nat) (cur : Array Value) (ty : TypeId), bk.has q → w.heap[q]? = some (.cells cur ty (0, 0)) → ty ≠ 50 → ty ≠ 193 → (w8.setCell ⟨B, 3, none⟩ (.slice a8 (bk.I.length + 1) c8)).heap[q]? = w.heap[q]? := fun q cur ty hq hc h50 h5 => by
     rw [hK q cur ty hc h50 h5 (fun e => HX.out q e hq), hc]
    have hup : ∀ q, (base ≤ q ∧ q < w.heap.size) → base ≤ q ∧ q < (w8.setCell ⟨B, 3, none⟩ (.slice a8 (bk.I.length + 1) c8)).heap.size := fun q hq => ⟨hq.1, Nat.lt_of_lt_of_le hq.2 hsz⟩
    obtain ⟨g2, g3, g4, g5⟩ := HROW.out
    have hbk : ∀ q, (⟨.slice al i cl, .slice a1 (i + 1) c1, .slice a2 (i + 2) c2, .slice a3 (i + 3) c3, .int .i64 (-((bk.n : Int) + 1))⟩ : Ent).has q → (Value.slice al i cl).ownBlock = some q ∨ w.heap.size ≤ q := fun q hq => by
     rcases b7 q hq with h | h
     ·exact .inl h
     ·exact .inr (Nat.le_trans K5.out.size h)
    refine ⟨⟨.slice al i cl, .slice a1 (i + 1) c1, .slice a2 (i + 2) c2, .slice a3 (i + 3) c3, .int .i64 (-((bk.n : Int) + 1))⟩, ⟨⟨vT, (.slice a8 (bk.I.length + 1) c8), vO, vE, ?_, own_kept' g2 (fun j cs _ hj => hoth j cs 191 hj (by decide) (by decide) (by decide)), by rw [List.length_append]; exact b2, own_kept' g4 (fun j cs _ hj => hoth j cs 195 hj (by decide) (by decide) (by decide)), own_kept' g5 (fun j cs _ hj => hoth j cs 198 hj (by decide) (by decide) (by decide))⟩, fun e he => ?_, fun e he => ?_, fun e he => ?_, fun e he => ?_⟩, hbk, hK, K5.out.trans b10⟩
    ·rw [show (((bk.n + 1 : Nat)) : Int) = (bk.n : Int) + 1 by omega]
     exact b1
    ·obtain ⟨a9, b9', c9⟩ := HH.out.T e he
     exact ⟨a9.kept (fun q cur hq hc => hent q cur 9 (.inl ⟨e, he, hq⟩) hc (by decide) (by decide)), b9', fun q hq => hup q (c9 q hq)⟩
    ·rcases List.mem_append.1 he with he1 | he1
     ·obtain ⟨a9, b9', c9⟩ := HH.out.I e he1
      exact ⟨a9.kept (fun q cur hq hc => hent q cur 3 (.inr (.inl ⟨e, he1, hq⟩)) hc (by decide) (by decide)), b9', fun q hq => hup q (c9 q hq)⟩
     ·rw [List.mem_singleton.1 he1]
      exact ⟨⟨own_ful b6 rfl (by omega), b3, b4, b5⟩, ⟨_, rfl⟩, fun q hq => ⟨(by rcases b7 q hq with h | h; exact own_ge b6 q h; exact Nat.le_trans (Nat.le_trans hbw K5.out.size) h), b8 q hq⟩⟩
    ·obtain ⟨a9, b9', c9⟩ := HH.out.O e he
     exact ⟨a9.kept (fun q cur hq hc => hent q cur 72 (.inr (.inr (.inl ⟨e, he, hq⟩))) hc (by decide) (by decide)), b9', fun q hq => hup q (c9 q hq)⟩
    ·obtain ⟨a9, b9', c9⟩ := HH.out.E e he
     exact ⟨a9.kept (fun q cur hq hc => hent q cur 70 (.inr (.inr (.inr ⟨e, he, hq⟩))) hc (by decide) (by decide)), b9', fun q hq => hup q (c9 q hq)⟩
   clear hB8 b1 b2 b3 b4 b5 b6 b7 b8 b9 b10 hr8 hj0 y0 y1 y2 hi0 z0 z1 z2
   go_region_law (refine step_app rfl (.tmp 54) (.tmp 56) 28 rfl _ _ _ (by simp [Act.eval]) (by simp [Act.eval]) _ HR8.out ?_)
   all_goals go_end0
   all_goals exact ⟨rfl, HEND.out⟩
def EntB (g : Nat) (w : World) (j : Nat) : Prop := ∃ cs v, w.heap[g]? = some (.cells cs 319 (0, 0)) ∧ cs[6]? = some v ∧ v.ownBlock = some j
section
variable {kt : Nat → Int} {B k g p q f : Nat} {T : TT} {un : Value} {ul : List Nat} {rd : Nat → Bool} {bl : Nat → ByteArray} {dn : Nat → Bool} {zs : Nat → Nat} {bd : Nat → Value} {w w' : World}
theorem VS.ent (h : VS kt B k g p q f T un ul rd bl dn zs bd w) {j : Nat} (hj : EntB g w j) : j < w.heap.size ∧ ∃ cur, w.heap[j]? = some (.cells cur 70 (0, 0)) := by
 obtain ⟨aE, kE, num, first, vB, h1, h2⟩ := h.hd
 obtain ⟨cs, v, e1, e2, e3⟩ := hj
 rw [h1] at e1
 simp only [Option.some.injEq, Obj.cells.injEq] at e1
 rw [← e1.1] at e2
 have e4 : v = .slice aE T.L.es.length kE := by
  have : (volC T.root T.lst T.L.K T.L.M T.L.C T.L.V (.slice aE T.L.es.length kE) T.lv num first vB)[6]? = some (.slice aE T.L.es.length kE) := rfl
  rw [this] at e2
  exact (Option.some.inj e2).symm
 subst e4
 exact ⟨own_lt h2 j e3, own_type h2 j e3⟩
theorem VS.out3 (h : VS kt B k g p q f T un ul rd bl dn zs bd w) {j : Nat} (hj : outV un bd dn T.L.ns j) : ∃ cur, w.heap[j]? = some (.cells cur 3 (0, 0)) := by
 rcases hj with e | ⟨s, hs, hd, e⟩
 ·exact own_type h.unO j e
 ·exact own_type (h.fn s hs hd).2 j e
theorem VS.kz {t5 : Nat} {z : Option Nat} (h : VS kt B k g p q f T un ul rd bl dn zs bd w) (hk : Kz t5 z w w') (h5 : t5 = 191 ∨ t5 = 193 ∨ t5 = 195 ∨ t5 = 198 ∨ t5 = 147) (hz : ∀ j, z = some j → (∃ cs t, w.heap[j]? = some (.cells cs t (0, 0)) ∧ (t = 3 ∨ t = 9 ∨ t = 70 ∨ t = 72)) ∧ j ≠ q ∧ ¬ outV un bd dn T.L.ns j ∧ ¬ EntB g w j) : VS kt B k g p q f T un ul rd bl dn zs bd w' := by
 have hgo : ∀ (j : Nat) (cs : Array Value) (t : TypeId), w.heap[j]? = some (.cells cs t (0, 0)) → t = 224 ∨ t = 319 ∨ t = 70 ∨ t = 3 ∨ t = 4 ∨ t = 9 ∨ t = 232 ∨ t = 231 → z ≠ some j → w'.heap[j]? = some (.cells cs t (0, 0)) := fun j cs t hj ht hne => by
  refine hk j cs t hj ?_ ?_ hne
  ·rcases ht with e | e | e | e | e | e | e | e <;> rw [e] <;> decide
  ·rcases ht with e | e | e | e | e | e | e | e <;> rcases h5 with e' | e' | e' | e' | e' <;> rw [e, e'] <;> decide
 have hno : ∀ (j : Nat) (cs : Array Value) (t : TypeId), w.heap[j]? = some (.cells cs t (0, 0)) → t = 224 ∨ t = 319 ∨ t = 4 ∨ t = 232 ∨ t = 231 → z ≠ some j := fun j cs t hj ht e => by
  obtain ⟨⟨cs2, t2, h2, ht2⟩, _⟩ := hz j e
  rw [hj] at h2
  simp only [Option.some.injEq, Obj.cells.injEq] at h2
  have := h2.2.1
  rcases ht with e | e | e | e | e <;> rcases ht2 with e' | e' | e' | e' <;> rw [e, e'] at this <;> exact absurd this (by decide)
 obtain ⟨aE, kE, num, first, vB, g1, g2⟩ := h.hd
 have hgg := hgo _ _ _ g1 (by simp) (hno _ _ _ g1 (by simp))
 refine ⟨hgo _ _ _ h.row (by simp) (hno _ _ _ h.row (by simp)), ⟨aE, kE, num, first, vB, hgg, own_kept' g2 (fun j cs hj hc => hgo j cs 70 hc (by simp) (fun e => (hz j e).2.2.2 ⟨_, _, g1, rfl, hj⟩))⟩, own_kept' h.unO (fun j cs hj hc => hgo j cs 3 hc (by simp) (fun e => (hz j e).2.2.1 (.inl hj))), hgo _ _ _ h.rdR (by simp) (hno _ _ _ h.rdR (by simp)), hgo _ _ _ h.blR (by simp) (fun e => (hz q e).2.1 rfl), hgo _ _ _ h.fiR (by simp) (hno _ _ _ h.fiR (by simp)), fun s hs hd => ⟨hgo _ _ _ (h.fn s hs hd).1 (by simp) (hno _ _ _ (h.fn s hs hd).1 (by simp)), own_kept' (h.fn s hs hd).2 (fun j cs hj hc => hgo j cs 3 hc (by simp) (fun e => (hz j e).2.2.1 (.inr ⟨s, hs, hd, hj⟩)))⟩⟩
theorem VS.fr {q' f' v' : Nat} {c1 c2 c3 : Array Value} (h : VS kt B k g p q f T un ul rd bl dn zs bd w) (hF : Fr (fun j => j = q' ∨ j = f' ∨ j = v') w w') (h1 : w.heap[q']? = some (.cells c1 9 (0, 0))) (h2 : w.heap[f']? = some (.cells c2 232 (0, 0))) (h3 : w.heap[v']? = some (.cells c3 159 (0, 0))) (hq : q ≠ q') (hf : f ≠ f') : VS kt B k g p q f T un ul rd bl dn zs bd w' := by
  have hgo : ∀ (j : Nat) (cs : Array Value) (t : TypeId), w.heap[j]? = some (.cells cs t (0, 0)) → t = 224 ∨ t = 319 ∨ t = 70 ∨ t = 3 ∨ t = 4 ∨ t = 231 ∨ j = q ∨ j = f → w'.heap[j]? = some (.cells cs t (0, 0)) := fun j cs t hj ht => by
    rw [hF.old j (Array.getElem?_eq_some_iff.1 hj).1 (fun e => ?_)]
    · exact hj
    · rcases ht with a | a | a | a | a | a | a | a
      all_goals first
        | (subst a; rcases e with e | e | e
           · exact row_ne hj h1 (by decide) e
           · exact row_ne hj h2 (by decide) e
           · exact row_ne hj h3 (by decide) e)
        | skip
      · subst a
        rcases e with e | e | e
        · exact hq e
        · exact row_ne h.blR h2 (by decide) e
        · exact row_ne h.blR h3 (by decide) e
      · subst a
        rcases e with e | e | e
        · exact row_ne h.fiR h1 (by decide) e
        · exact hf e
        · exact row_ne h.fiR h3 (by decide) e
  obtain ⟨aE, kE, num, first, vB, g1, g2⟩ := h.hd
  exact ⟨hgo _ _ _ h.row (by simp), ⟨aE, kE, num, first, vB, hgo _ _ _ g1 (by simp), own_kept' g2 (fun j cs _ hc => hgo j cs 70 hc (by simp))⟩, own_kept' h.unO (fun j cs _ hc => hgo j cs 3 hc (by simp)), hgo _ _ _ h.rdR (by simp), hgo _ _ _ h.blR (by simp), hgo _ _ _ h.fiR (by simp), fun s hs hd => ⟨hgo _ _ _ (h.fn s hs hd).1 (by simp), own_kept' (h.fn s hs hd).2 (fun j cs _ hc => hgo j cs 3 hc (by simp))⟩⟩
end
structure Dr where
 B : Nat
 v : Nat
 k : Nat
 g : Nat
 p : Nat
 q : Nat
 f : Nat
 un : Value
 ul : List Nat
 rd : Nat → Bool
 C : Nat
 y : Nat
 vH : Value
 vU : Value
 hp : List (ByteArray × Nat)
 t0 : ByteArray
 Y : World
def Dr.bl (d : Dr) : Nat → ByteArray := blH (d.hp.map Prod.fst)
structure Dr.fit (kt : Nat → Int) (d : Dr) : Prop where
 set : RSet kt d.t0 (d.hp.map Prod.fst)
 rd : ∀ v, d.rd v = true ↔ ∃ x ∈ d.hp.map Prod.fst, (tT x).num = v
 ul : d.ul.length ≤ 100000000
 hl : d.hp.length ≤ 100000000
 rb : RB kt d.C d.y d.vH d.vU d.hp d.ul d.Y
theorem Dr.fit.told {kt : Nat → Int} {d : Dr} (h : d.fit kt) : Told1 (tT d.t0) ∧ ((tT d.t0).L.es.length ≤ 16 ∧ lenE (tT d.t0).L.es ≤ 4096) := ⟨ck_ok (rd_none (h.set.rd d.t0 h.set.mem0)).2.1, told_len (RS.on d.t0)⟩
def yT (t : Nat) : Prop := t = 209 ∨ t = 169 ∨ t = 3 ∨ t = 174 ∨ t = 70 ∨ t = 9
theorem RB.kept2 {kt : Nat → Int} {B v : Nat} {vH vU : Value} {hs : List (ByteArray × Nat)} {un : List Nat} {w w' : World} (h : RB kt B v vH vU hs un w) (hk : ∀ (j : Nat) (cs : Array Value) (t : TypeId), B ≤ j → w.heap[j]? = some (.cells cs t (0, 0)) → yT t → w'.heap[j]? = some (.cells cs t (0, 0))) : RB kt B v vH vU hs un w' where
 row := hk _ _ _ h.lv h.row (.inl rfl)
 oH := own_kept' h.oH (fun j cs hj hc => hk j cs _ (own_ge h.oH j hj) hc (by simp [yT]))
 oU := own_kept' h.oU (fun j cs hj hc => hk j cs _ (own_ge h.oU j hj) hc (by simp [yT]))
 hd := fun x hx => by
  obtain ⟨h0, h1, vE, vL, vB, hr, oE, oL, oB⟩ := h.hd x hx
  exact ⟨h0, h1, vE, vL, vB, hk _ _ _ h1 hr (by simp [yT]), own_kept' oE (fun j cs hj hc => hk j cs _ (own_ge oE j hj) hc (by simp [yT])), own_kept' oL (fun j cs hj hc => hk j cs _ (own_ge oL j hj) hc (by simp [yT])), own_kept' oB (fun j cs hj hc => hk j cs _ (own_ge oB j hj) hc (by simp [yT]))⟩
 lv := h.lv
structure Dr.at (kt : Nat → Int) (base : Nat) (Z : Nat → Prop) (d : Dr) (w : World) : Prop where
 vl : VL d.v d.k 0 w
 vs : ∃ dn zs bd, VS kt d.B d.k d.g d.p d.q d.f (tT d.t0) d.un d.ul d.rd d.bl dn zs bd w ∧ ∀ j, Z j → ¬ outV d.un bd dn (tT d.t0).L.ns j
 zn : ∀ j, Z j → j ≠ d.q ∧ ¬ EntB d.g w j ∧ (j < d.C ∨ d.Y.heap.size ≤ j)
 lo : base ≤ d.B ∧ base ≤ d.v ∧ base ≤ d.q ∧ base ≤ d.f ∧ base ≤ d.C
 bw : d.B ≤ w.heap.size
 up : d.v < d.C ∧ d.q < d.C ∧ d.f < d.C
 yw : ∀ (j : Nat) (cs : Array Value) (t : TypeId), d.C ≤ j → d.Y.heap[j]? = some (.cells cs t (0, 0)) → yT t → w.heap[j]? = some (.cells cs t (0, 0))
 yl : d.Y.heap.size ≤ w.heap.size
section
variable {kt : Nat → Int} {base : Nat} {Z : Nat → Prop} {d : Dr} {w w' : World}
theorem Dr.at.rb (h : d.at kt base Z w) (hf : d.fit kt) : RB kt d.C d.y d.vH d.vU d.hp d.ul w := hf.rb.kept2 h.yw
theorem Dr.at.vk (h : d.at kt base Z w) : VK kt d.B d.v d.k d.g d.p d.q d.f (tT d.t0) d.un d.ul d.rd d.bl w := by
 obtain ⟨dn, zs, bd, hV, _⟩ := h.vs
 exact ⟨h.vl, dn, zs, bd, hV⟩
theorem Dr.at.mono {Z' : Nat → Prop} (h : d.at kt base Z w) (hz : ∀ j, Z' j → Z j) : d.at kt base Z' w := by
 obtain ⟨dn, zs, bd, hV, ho⟩ := h.vs
 exact ⟨h.vl, ⟨dn, zs, bd, hV, fun j hj => ho j (hz j hj)⟩, fun j hj => h.zn j (hz j hj), h.lo, h.bw, h.up, h.yw, h.yl⟩
theorem EntB.back {g : Nat} {j : Nat} (h : EntB g w' j) (e : w'.heap[g]? = w.heap[g]?) : EntB g w j := by
 obtain ⟨cs2, v, e1, e2, e3⟩ := h
 exact ⟨cs2, v, by rw [← e]; exact e1, e2, e3⟩
theorem Dr.at.low (h : d.at kt base Z w) (hb : Below w.heap.size w w') : d.at kt base Z w' := by
 obtain ⟨dn, zs, bd, hV, ho⟩ := h.vs
 obtain ⟨aE, kE, num, first, vB, g1, g2⟩ := hV.hd
 refine ⟨(hb.block _ (Array.getElem?_eq_some_iff.1 h.vl).1).trans h.vl, ⟨dn, zs, bd, hV.below hb, ho⟩, fun j hj => ⟨(h.zn j hj).1, fun e => (h.zn j hj).2.1 (e.back (hb.block _ (Array.getElem?_eq_some_iff.1 g1).1)), (h.zn j hj).2.2⟩, h.lo, Nat.le_trans h.bw hb.size, h.up, fun j cs t h1 h2 h3 => ?_, Nat.le_trans h.yl hb.size⟩
 have h4 := h.yw j cs t h1 h2 h3
 rw [hb.block j (Array.getElem?_eq_some_iff.1 h4).1]
 exact h4
theorem Dr.at.kz {t5 : Nat} {z : Option Nat} (h : d.at kt base Z w) (hk : Kz t5 z w w') (h5 : t5 = 191 ∨ t5 = 193 ∨ t5 = 195 ∨ t5 = 198 ∨ t5 = 147) (hz : ∀ j, z = some j → Z j ∧ ∃ cs t, w.heap[j]? = some (.cells cs t (0, 0)) ∧ (t = 3 ∨ t = 9 ∨ t = 70 ∨ t = 72)) (hsz : w.heap.size ≤ w'.heap.size) : d.at kt base Z w' := by
 obtain ⟨dn, zs, bd, hV, ho⟩ := h.vs
 obtain ⟨aE, kE, num, first, vB, g1, g2⟩ := hV.hd
 have hty : ∀ (j : Nat) (cs : Array Value) (t : TypeId), w.heap[j]? = some (.cells cs t (0, 0)) → t = 319 ∨ t = 159 → z ≠ some j := fun j cs t hj ht e => by
  obtain ⟨_, cs2, t2, h2, ht2⟩ := hz j e
  rw [hj] at h2
  simp only [Option.some.injEq, Obj.cells.injEq] at h2
  have := h2.2.1
  rcases ht with e | e <;> rcases ht2 with e' | e' | e' | e' <;> rw [e, e'] at this <;> exact absurd this (by decide)
 have hg : w'.heap[d.g]? = w.heap[d.g]? := by
  rw [hk _ _ _ g1 (by decide) (by rcases h5 with e | e | e | e | e <;> rw [e] <;> decide) (hty _ _ _ g1 (.inl rfl)), g1]
 refine ⟨hk _ _ _ h.vl (by decide) (by rcases h5 with e | e | e | e | e <;> rw [e] <;> decide) (hty _ _ _ h.vl (.inr rfl)), ⟨dn, zs, bd, hV.kz hk h5 (fun j hj => ⟨(hz j hj).2, (h.zn j (hz j hj).1).1, ho j (hz j hj).1, (h.zn j (hz j hj).1).2.1⟩), ho⟩, fun j hj => ⟨(h.zn j hj).1, fun e => (h.zn j hj).2.1 (e.back hg), (h.zn j hj).2.2⟩, h.lo, Nat.le_trans h.bw hsz, h.up, fun j cs t h1 h2 h3 => ?_, Nat.le_trans h.yl hsz⟩
 have e4 := h.yw j cs t h1 h2 h3
 have hjl := (Array.getElem?_eq_some_iff.1 h2).1
 refine hk j cs t e4 ?_ ?_ (fun e => ?_)
 ·rcases h3 with e | e | e | e | e | e <;> rw [e] <;> decide
 ·rcases h3 with e | e | e | e | e | e <;> rcases h5 with e' | e' | e' | e' | e' <;> rw [e, e'] <;> decide
 ·rcases (h.zn j (hz j e).1).2.2 with h6 | h6 <;> omega
theorem Dr.at.other {d' : Dr} (h : d.at kt base (fun _ => False) w) (h' : d'.at kt base (fun _ => False) w) (hF : Fr (fun j => j = d'.q ∨ j = d'.f ∨ j = d'.v) w w') (hq : d.q ≠ d'.q) (hf : d.f ≠ d'.f) (hv : d.v ≠ d'.v) (hY : ∀ j, d.C ≤ j → j < d.Y.heap.size → j ≠ d'.q) (hZ : ∀ j, Z j → w.heap.size ≤ j) : d.at kt base Z w' := by
 obtain ⟨dn, zs, bd, hV, _⟩ := h.vs
 obtain ⟨dn', zs', bd', hV', _⟩ := h'.vs
 obtain ⟨aE, kE, num, first, vB, g1, g2⟩ := hV.hd
 have hg : w'.heap[d.g]? = w.heap[d.g]? := hF.old _ (Array.getElem?_eq_some_iff.1 g1).1 (fun e => by
  rcases e with e | e | e
  ·exact row_ne g1 hV'.blR (by decide) e
  ·exact row_ne g1 hV'.fiR (by decide) e
  ·exact row_ne g1 h'.vl (by decide) e)
 have hVL : w'.heap[d.v]? = w.heap[d.v]? := hF.old _ (Array.getElem?_eq_some_iff.1 h.vl).1 (fun e => by
  rcases e with e | e | e
  ·exact row_ne h.vl hV'.blR (by decide) e
  ·exact row_ne h.vl hV'.fiR (by decide) e
  ·exact hv e)
 refine ⟨hVL.trans h.vl, ⟨dn, zs, bd, hV.fr hF hV'.blR hV'.fiR h'.vl hq hf, fun j hj e => ?_⟩, fun j hj => ⟨fun e => ?_, fun e => ?_, .inr (Nat.le_trans h.yl (hZ j hj))⟩, h.lo, Nat.le_trans h.bw hF.size, h.up, fun j cs t h1 h2 h3 => ?_, Nat.le_trans h.yl hF.size⟩
 ·have := hV.outs j e; have := hZ j hj; omega
 ·have h1 := hV.blR.lt; have := hZ j hj; omega
 ·have := (hV.ent (e.back hg)).1; have := hZ j hj; omega
 ·have h4 := h.yw j cs t h1 h2 h3
  rw [hF.old j (Array.getElem?_eq_some_iff.1 h4).1 (fun e => by
   rcases e with e | e | e
   ·exact hY j h1 (Array.getElem?_eq_some_iff.1 h2).1 e
   ·exact row_ne h4 hV'.fiR (by rcases h3 with e | e | e | e | e | e <;> rw [e] <;> decide) e
   ·exact row_ne h4 h'.vl (by rcases h3 with e | e | e | e | e | e <;> rw [e] <;> decide) e)]
  exact h4
theorem Dr.at.self (h : d.at kt base (fun _ => False) w) (hF : Fr (fun j => j = d.q ∨ j = d.f ∨ j = d.v) w w') (hvl : VL d.v d.k 0 w') (hvs : ∃ dn zs bd, VS kt d.B d.k d.g d.p d.q d.f (tT d.t0) d.un d.ul d.rd d.bl dn zs bd w' ∧ ∀ j, Z j → ¬ outV d.un bd dn (tT d.t0).L.ns j) (hZ : ∀ j, Z j → w.heap.size ≤ j) : d.at kt base Z w' := by
 obtain ⟨dn, zs, bd, hV, _⟩ := h.vs
 obtain ⟨aE, kE, num, first, vB, g1, g2⟩ := hV.hd
 have hg : w'.heap[d.g]? = w.heap[d.g]? := hF.old _ (Array.getElem?_eq_some_iff.1 g1).1 (fun e => by
  rcases e with e | e | e
  ·exact row_ne g1 hV.blR (by decide) e
  ·exact row_ne g1 hV.fiR (by decide) e
  ·exact row_ne g1 h.vl (by decide) e)
 refine ⟨hvl, hvs, fun j hj => ⟨fun e => ?_, fun e => ?_, .inr (Nat.le_trans h.yl (hZ j hj))⟩, h.lo, Nat.le_trans h.bw hF.size, h.up, fun j cs t h1 h2 h3 => ?_, Nat.le_trans h.yl hF.size⟩
 ·have h1 := hV.blR.lt; have := hZ j hj; omega
 ·have := (hV.ent (e.back hg)).1; have := hZ j hj; omega
 ·have h4 := h.yw j cs t h1 h2 h3
  rw [hF.old j (Array.getElem?_eq_some_iff.1 h4).1 (fun e => by
   obtain ⟨a1, a2, a3⟩ := h.up
   rcases e with e | e | e <;> omega)]
  exact h4
end
theorem info198 : (Tryz.prog.info? 198).map (fun i => (i.zero, i.size, i.bytes)) = some (some (.agg #[.slice none 0 0, .slice none 0 0, .slice none 0 0, .slice none 0 0, .string ⟨#[]⟩]), 5, 112) := by kernel_rfl
def KeptE (base B : Nat) (l0 lo : Value) (bk : Bk) (l : Value) (w w' : World) : Prop :=
 ∃ x : Ent, BkI base B l0 lo { bk with n := bk.n + 1, E := bk.E ++ [x] } w' ∧ (∀ q, x.has q → l.ownBlock = some q ∨ w.heap.size ≤ q) ∧ Kz 198 l.ownBlock w w' ∧ Below base w w'
theorem keepE (base B : Nat) (l0 lo : Value) (bk : Bk) (l : Value) (n : Nat) (xs : List Value) (w : World) (H : BkI base B l0 lo bk w) (ho : w.ownsRow base 70 2 l n xs) (hx : ∀ q, l.ownBlock = some q → ¬ bk.has q) (hbw : base ≤ w.heap.size) (hBb : base ≤ B) (hn : n ≤ 1000000000) (hbn : bk.n ≤ 100000000000) (hbl : bk.E.length ≤ 100000000000) :
  Calls Tryz.prog 114 #[.pointer (some ⟨B, 1, none⟩), l] w fun e w' => e = .returned (.tuple #[]) ∧ KeptE base B l0 lo bk l w w' := by
 have HH : Hid _ := H
 obtain ⟨vT, vI, vO, vE, h1, h2, h3, h4, h5⟩ := H.row
 have o0 : w.cell? ⟨B, 1, none⟩ = some (.int .i64 bk.n) := cell_of_row _ _ _ _ 50 _ h1
 have f0 : w.frozen? ⟨B, 1, none⟩ = false := frozen_of_row w B 1 _ 50 h1
 obtain ⟨W1, hW1⟩ : ∃ W1, w.setCell ⟨B, 1, none⟩ (.int .i64 ((bk.n : Int) + 1)) = W1 := ⟨_, rfl⟩
 have k1 : W1.heap[B]? = some (.cells #[l0, .int .i64 ((bk.n : Int) + 1), vT, vI, vO, vE, lo] 50 (0, 0)) := by rw [← hW1]; exact set_heap _ _ _ _ _ _ _ h1
 have o1 : W1.cell? ⟨B, 1, none⟩ = some (.int .i64 ((bk.n : Int) + 1)) := cell_of_row _ _ _ _ 50 _ k1
 have k2 : W1.ownsRow base 198 5 vE bk.E.length (flatG bk.E) := by rw [← hW1]; exact own_kept' h5 (fun j cs _ hj => by rw [set_other _ _ _ _ _ (row_ne hj h1 (by decide))]; exact hj)
 have k3 : W1.ownsRow base 70 2 l n xs := by rw [← hW1]; exact own_kept' ho (fun j cs _ hj => by rw [set_other _ _ _ _ _ (row_ne hj h1 (by decide))]; exact hj)
 have k4 : Kz 198 l.ownBlock w W1 := by rw [← hW1]; exact Kz.set h1 (.inl rfl) _ _
 have k5 : Below base w W1 := by rw [← hW1]; exact (Below.refl _ _).setCell (p := ⟨B, 1, none⟩) hBb _
 obtain ⟨al, cl, hsl⟩ := own_shape ho
 have hxl : xs.length = n * 2 := ho.1
 have HX : Hid _ := hx
 have HO : Hid (w.ownsRow base 70 2 l n xs) := ho
 have HROW : Hid _ := And.intro h2 (And.intro h3 (And.intro h4 h5))
 clear H h1 h2 h3 h4 h5 ho hx
 have K1 : Hid _ := k1
 have K2 : Hid _ := k2
 have K3 : Hid _ := k3
 have K4 : Hid (Kz 198 l.ownBlock w W1) := k4
 have K5 : Hid _ := k5
 clear k1 k2 k3 k4 k5
 subst hsl
 go_enter Tryz.func114, Tryz.ntmps114
 go_wp2_with fail
 rw [show ((bk.n : Int) + 1) = ((bk.n + 1 : Nat) : Int) by omega]
 refine (mark_any (bk.n + 1) W1 (by omega)).mono ?_
 rintro e W2 ⟨m, rfl, hB2⟩
 obtain ⟨W, hW⟩ : ∃ W, W2.alloc (.cells #[.string m, .int .i64 0] 70) = W := ⟨_, rfl⟩
 obtain ⟨ob, hob⟩ : ∃ ob, W2.heap.size = ob := ⟨_, rfl⟩
 have hB3 : Below W1.heap.size W1 W := by rw [← hW]; exact hB2.alloc hB2.size _
 have q1 : W.heap[ob]? = some (.cells #[.string m, .int .i64 0] 70 (0, 0)) := by rw [← hW, ← hob]; exact heap_alloc_new _ _
 have q2 : W1.heap.size ≤ ob := by rw [← hob]; exact hB2.size
 have k1 : W.heap[B]? = some (.cells #[l0, .int .i64 ((bk.n : Int) + 1), vT, vI, vO, vE, lo] 50 (0, 0)) := by rw [hB3.block B (Array.getElem?_eq_some_iff.1 K1.out).1]; exact K1.out
 have k2 := own_kept K2.out (fun q hq => hB3.block q (own_lt K2.out q hq))
 have k3 := own_kept K3.out (fun q hq => hB3.block q (own_lt K3.out q hq))
 have k4 := K4.out.trans (Kz.below hB3)
 have k5 := K5.out.trans (hB3.mono (Nat.le_trans hbw K5.out.size))
 have q3 : (Value.slice al n cl).ownBlock ≠ some ob := fun e => by have := own_lt K3.out ob e; omega
 clear K1 K2 K3 K4 K5
 have K1 : Hid _ := k1
 have K2 : Hid _ := k2
 have K3 : Hid _ := k3
 have K4 : Hid (Kz 198 (Value.slice al n cl).ownBlock w W) := k4
 have K5 : Hid _ := k5
 clear k1 k2 k3 k4 k5 hB2 hB3 o0 o1 f0 hW1
 have Q1 : Hid _ := q1
 have Q3 : Hid _ := q3
 have HW : Hid _ := hW
 have HOB : Hid _ := hob
 clear hW hob q1 q3 q2
 go_upto_region 3 with fail
 rw [HW.out, HOB.out]
 clear HW HOB
 go_wp2_with fail
 go_loopw [6] (fun iv wr => ∃ i : Nat, i ≤ n ∧ iv = .int .i64 i ∧ wr.heap[B]? = some (.cells #[l0, .int .i64 ((bk.n : Int) + 1), vT, vI, vO, vE, lo] 50 (0, 0)) ∧ wr.ownsRow base 198 5 vE bk.E.length (flatG bk.E) ∧ wr.ownsRow base 70 2 (.slice al n cl) n (repG [.string m, .int .i64 0] i ++ xs.drop (i * 2)) ∧ Kz 198 (Value.slice al n cl).ownBlock W wr ∧ Below base W wr) (fun iv _ => n - (intOf iv).toNat)
 case atStart => exact ⟨0, Nat.zero_le _, rfl, K1.out, K2.out, K3.out, Kz.refl _ _ _, Below.refl _ _⟩
 case round =>
  obtain ⟨i, hi, rfl, r1, r2, r3, r4, r5⟩ := hrel
  have s0 := r4 _ _ _ Q1.out (by decide) (by decide) Q3.out
  have s1 : wr.cell? ⟨ob, 0, none⟩ = some (.string m) := cell_of_row _ _ _ _ 70 _ s0
  have s2 : wr.cell? ⟨ob, 1, none⟩ = some (.int .i64 0) := cell_of_row _ _ _ _ 70 _ s0
  by_cases hlt : i < n
  ·have hlt' : (i : Int) < (n : Int) := by omega
   have hi0 : (0 : Int) ≤ (i : Int) := by omega
   obtain ⟨g, rfl⟩ : ∃ g, al = some ⟨g, 0, none⟩ := by
    rcases r3.2 with ⟨e, e0⟩ | ⟨g, cap, cur, e, _⟩
    ·omega
    ·exact ⟨g, by cases e; rfl⟩
   obtain ⟨p1, p2, x0, p3⟩ := own_putG r3 (p := i * 2) (by omega) (.string m)
   obtain ⟨p4, p5, x1, p6⟩ := own_putG p1 (p := i * 2 + 1) (by omega) (.int .i64 0)
   rw [rep_set2 _ _ xs i n hlt (by omega)] at p4
   have p7 : ∃ y, wr.cell? ⟨g, i * 2 + 1, none⟩ = some y := (own_putG r3 (p := i * 2 + 1) (by omega) (.string m)).2.2
   obtain ⟨x2, p7⟩ := p7
   have p8 : wr.frozen? ⟨g, i * 2 + 1, none⟩ = false := (own_putG r3 (p := i * 2 + 1) (by omega) (.string m)).2.1
   have hgB : g ≠ B := row_ne (own_type r3 g rfl).choose_spec r1 (by decide)
   have P4 : Hid _ := p4
   have R1 : Hid (((wr.setCell ⟨g, i * 2, none⟩ (.string m)).setCell ⟨g, i * 2 + 1, none⟩ (.int .i64 0)).heap[B]? = some (.cells #[l0, .int .i64 ((bk.n : Int) + 1), vT, vI, vO, vE, lo] 50 (0, 0))) := by show _ = _; rw [set_other _ _ _ _ _ hgB.symm, set_other _ _ _ _ _ hgB.symm]; exact r1
   have R2 : Hid (((wr.setCell ⟨g, i * 2, none⟩ (.string m)).setCell ⟨g, i * 2 + 1, none⟩ (.int .i64 0)).ownsRow base 198 5 vE bk.E.length (flatG bk.E)) := own_kept' r2 (fun j cs _ hj => by rw [set_other _ _ _ _ _ (row_ne hj (own_type r3 g rfl).choose_spec (by decide)), set_other _ _ _ _ _ (row_ne hj (own_type r3 g rfl).choose_spec (by decide))]; exact hj)
   have R4 : Hid (Kz 198 (some g) W ((wr.setCell ⟨g, i * 2, none⟩ (.string m)).setCell ⟨g, i * 2 + 1, none⟩ (.int .i64 0))) := Kz.setz (Kz.setz r4 _ _) _ _
   have R5 : Hid (Below base W ((wr.setCell ⟨g, i * 2, none⟩ (.string m)).setCell ⟨g, i * 2 + 1, none⟩ (.int .i64 0))) := (r5.setCell (p := ⟨g, i * 2, none⟩) (own_ge r3 g rfl) _).setCell (p := ⟨g, i * 2 + 1, none⟩) (own_ge r3 g rfl) _
   clear p1 p4 r1 r2 r3 r4 r5 s0
   go_wp2_with fail
   go_roundw
   case rel => exact ⟨i + 1, by omega, by go_num, R1.out, R2.out, P4.out, R4.out, R5.out⟩
   case measure => simp [intOf]; omega
  ·obtain rfl : i = n := by omega
   have hlt' : ¬ (i : Int) < (i : Int) := by omega
   have r3' : wr.ownsRow base 70 2 (.slice al i cl) i (repG [.string m, .int .i64 0] i) := by
    rw [List.drop_eq_nil_of_le (by omega), List.append_nil] at r3; exact r3
   have ka := KA.start (m := .string m) r1 r2 r3' r4 r5 (Nat.le_trans hbw K5.out.size)
   obtain ⟨i0, hi0, z0, z1, z2⟩ := info_parts info70
   obtain ⟨j0, hj0, y0, y1, y2⟩ := info_parts info198
   obtain ⟨w3, hw3⟩ : ∃ w3, wr.alloc (.cells #[.slice al i cl, .slice none 0 0, .slice none 0 0, .slice none 0 0, .string m] 198) = w3 := ⟨_, rfl⟩
   obtain ⟨x0, hx0⟩ : ∃ x0, wr.heap.size = x0 := ⟨_, rfl⟩
   rw [hw3, hx0] at ka
   have KA0 : Hid _ := ka
   clear ka r1 r2 r3 r3' r4 r5 s0
   go_upto_region 8 with fail
   try rw [hw3]
   try rw [hx0]
   clear hw3 hx0 s1 s2
   have s0 := KA0.out.kz _ _ _ Q1.out (by decide) (by decide) Q3.out
   have s1 : w3.cell? ⟨ob, 0, none⟩ = some (.string m) := cell_of_row _ _ _ _ 70 _ s0
   have s2 : w3.cell? ⟨ob, 1, none⟩ = some (.int .i64 0) := cell_of_row _ _ _ _ 70 _ s0
   clear s0
   obtain ⟨v1, u1, hr1, hrow, ⟨a1, c1, rfl⟩, ka1, _, _⟩ := KA0.out.app (tS := 59) Tryz.underlying59 hi0 z0 z1 z2 rfl (by decide) rfl (by intro u hu; simp at hu; first | (subst hu; rfl) | (rcases hu with rfl | rfl <;> rfl)) (by decide) (by decide) (by decide) hn (by decide) (k' := 1) (by omega) (by omega) #[.string m, .int .i64 0] rfl
   have q0 : u1.cell? ⟨x0, 1, none⟩ = some (.slice none 0 0) := cell_of_row _ _ _ _ 198 _ hrow
   have q9 : u1.frozen? ⟨x0, 1, none⟩ = false := frozen_of_row _ _ _ _ 198 hrow
   have HR : Hid _ := hr1
   have KA1 : Hid _ := ka1
   clear hr1 hrow ka1
   go_upto_region 9 with (at_builtin; refine wpList_app rfl (.tmp 35) (.tmp 37) 59 rfl _ _ _ (by simp [Act.eval]) (by simp [Act.eval]) _ HR.out ?_)
   clear q0 q9 HR s1 s2
   obtain ⟨w4, hw4⟩ : ∃ X, u1.setCell ⟨x0, 1, none⟩ (.slice a1 (i + 1) c1) = X := ⟨_, rfl⟩
   rw [hw4] at KA1
   rw [hw4]
   clear hw4 KA0
   have s0 := KA1.out.kz _ _ _ Q1.out (by decide) (by decide) Q3.out
   have s1 : w4.cell? ⟨ob, 0, none⟩ = some (.string m) := cell_of_row _ _ _ _ 70 _ s0
   have s2 : w4.cell? ⟨ob, 1, none⟩ = some (.int .i64 0) := cell_of_row _ _ _ _ 70 _ s0
   clear s0
   obtain ⟨v2, u2, hr2, hrow, ⟨a2, c2, rfl⟩, _, ka1, _⟩ := KA1.out.app (tS := 59) Tryz.underlying59 hi0 z0 z1 z2 rfl (by decide) rfl (by intro u hu; simp at hu; first | (subst hu; rfl) | (rcases hu with rfl | rfl <;> rfl)) (by decide) (by decide) (by decide) hn (by decide) (k' := 2) (by omega) (by omega) #[.string m, .int .i64 0, .string m, .int .i64 0] rfl
   have q0 : u2.cell? ⟨x0, 2, none⟩ = some (.slice none 0 0) := cell_of_row _ _ _ _ 198 _ hrow
   have q9 : u2.frozen? ⟨x0, 2, none⟩ = false := frozen_of_row _ _ _ _ 198 hrow
   have HR : Hid _ := hr2
   have KA2 : Hid _ := ka1
   clear hr2 hrow ka1
   go_upto_region 10 with (at_builtin; refine wpList_app rfl (.tmp 40) (.tmp 43) 59 rfl _ _ _ (by simp [Act.eval]) (by simp [Act.eval]) _ HR.out ?_)
   clear q0 q9 HR s1 s2
   obtain ⟨w5, hw5⟩ : ∃ X, u2.setCell ⟨x0, 2, none⟩ (.slice a2 (i + 2) c2) = X := ⟨_, rfl⟩
   rw [hw5] at KA2
   rw [hw5]
   clear hw5 KA1
   have s0 := KA2.out.kz _ _ _ Q1.out (by decide) (by decide) Q3.out
   have s1 : w5.cell? ⟨ob, 0, none⟩ = some (.string m) := cell_of_row _ _ _ _ 70 _ s0
   have s2 : w5.cell? ⟨ob, 1, none⟩ = some (.int .i64 0) := cell_of_row _ _ _ _ 70 _ s0
   clear s0
   obtain ⟨v3, u3, hr3, hrow, ⟨a3, c3, rfl⟩, _, _, ka1⟩ := KA2.out.app (tS := 59) Tryz.underlying59 hi0 z0 z1 z2 rfl (by decide) rfl (by intro u hu; simp at hu; first | (subst hu; rfl) | (rcases hu with rfl | rfl <;> rfl)) (by decide) (by decide) (by decide) hn (by decide) (k' := 3) (by omega) (by omega) #[.string m, .int .i64 0, .string m, .int .i64 0, .string m, .int .i64 0] rfl
   have q0 : u3.cell? ⟨x0, 3, none⟩ = some (.slice none 0 0) := cell_of_row _ _ _ _ 198 _ hrow
   have q9 : u3.frozen? ⟨x0, 3, none⟩ = false := frozen_of_row _ _ _ _ 198 hrow
   have HR : Hid _ := hr3
   have KA3 : Hid _ := ka1
   clear hr3 hrow ka1
   go_upto_region 11 with (at_builtin; refine wpList_app rfl (.tmp 46) (.tmp 50) 59 rfl _ _ _ (by simp [Act.eval]) (by simp [Act.eval]) _ HR.out ?_)
   clear q0 q9 HR s1 s2
   obtain ⟨w6, hw6⟩ : ∃ X, u3.setCell ⟨x0, 3, none⟩ (.slice a3 (i + 3) c3) = X := ⟨_, rfl⟩
   rw [hw6] at KA3
   rw [hw6]
   clear hw6 KA2
   obtain ⟨v8, w8, hr8, ⟨a8, c8, rfl⟩, hB8, b1, b2, _, b3, b4, b5, b6, b7, b8, b9, b10⟩ := KA3.out.fin (tS5 := 30) Tryz.underlying30 hj0 y0 y1 (by rw [y2]; decide) rfl (by intro u hu; simp at hu; rcases hu with rfl | rfl | rfl | rfl | rfl <;> rfl) (by decide) (by decide) (by decide) hbl hBb 5
   obtain ⟨av, cv, hsv⟩ := own_shape KA3.out.own
   subst hsv
   have e0 : w6.cell? ⟨x0, 0, none⟩ = some (.slice al i cl) := cell_of_row _ _ _ _ 198 _ KA3.out.row
   have e1 : w6.cell? ⟨x0, 1, none⟩ = some (.slice a1 (i + 1) c1) := cell_of_row _ _ _ _ 198 _ KA3.out.row
   have e2 : w6.cell? ⟨x0, 2, none⟩ = some (.slice a2 (i + 2) c2) := cell_of_row _ _ _ _ 198 _ KA3.out.row
   have e3 : w6.cell? ⟨x0, 3, none⟩ = some (.slice a3 (i + 3) c3) := cell_of_row _ _ _ _ 198 _ KA3.out.row
   have e4 : w6.cell? ⟨x0, 4, none⟩ = some (.string m) := cell_of_row _ _ _ _ 198 _ KA3.out.row
   have p0 : w6.cell? ⟨B, 5, none⟩ = some (.slice av bk.E.length cv) := cell_of_row _ _ _ _ 50 _ KA3.out.hall
   have p1 : w8.cell? ⟨B, 5, none⟩ = some (.slice av bk.E.length cv) := cell_of_row _ _ _ _ 50 _ hB8
   have p2 : w8.frozen? ⟨B, 5, none⟩ = false := frozen_of_row _ _ _ _ 50 hB8
   have pz : (w6.alloc (.cells #[.slice al i cl, .slice a1 (i + 1) c1, .slice a2 (i + 2) c2, .slice a3 (i + 3) c3, .string m] 198)).cell? ⟨B, 5, none⟩ = some (.slice av bk.E.length cv) := by rw [World.cell?_alloc_lt _ _ _ (block_lt_of_cell p0)]; exact p0
   have HR8 : Hid _ := hr8
   have HEND : Hid (KeptE base B l0 lo bk (.slice al i cl) w (w8.setCell ⟨B, 5, none⟩ (.slice a8 (bk.E.length + 1) c8))) := by
    have hK := K4.out.trans b9
    have hsz : w.heap.size ≤ (w8.setCell ⟨B, 5, none⟩ (.slice a8 (bk.E.length + 1) c8)).heap.size := (K5.out.trans b10).size
    have hoth : ∀ (j : Nat) (cs : Array Value) (t : TypeId), w.heap[j]? = some (.cells cs t (0, 0)) → t ≠ 50 → t ≠ 198 → t ≠ 70 → (w8.setCell ⟨B, 5, none⟩ (.slice a8 (bk.E.length + 1) c8)).heap[j]? = some (.cells cs t (0, 0)) := fun j cs t hj h50 h5 hE => hK j cs t hj h50 h5 (fun e => by
     obtain ⟨cur, hcur⟩ := own_type HO.out j e
     exact row_ne hj hcur hE rfl)
    have hent : ∀ (q : Nat) (cur : Array Value) (ty : TypeId), bk.has q → w.heap[q]? = some (.cells cur ty (0, 0)) → ty ≠ 50 → ty ≠ 198 → (w8.setCell ⟨B, 5, none⟩ (.slice a8 (bk.E.length + 1) c8)).heap[q]? = w.heap[q]? := fun q cur ty hq hc h50 h5 => by
     rw [hK q cur ty hc h50 h5 (fun e => HX.out q e hq), hc]
    have hup : ∀ q, (base ≤ q ∧ q < w.heap.size) → base ≤ q ∧ q < (w8.setCell ⟨B, 5, none⟩ (.slice a8 (bk.E.length + 1) c8)).heap.size := fun q hq => ⟨hq.1, Nat.lt_of_lt_of_le hq.2 hsz⟩
    obtain ⟨g2, g3, g4, g5⟩ := HROW.out
    have hbk : ∀ q, (⟨.slice al i cl, .slice a1 (i + 1) c1, .slice a2 (i + 2) c2, .slice a3 (i + 3) c3, .string m⟩ : Ent).has q → (Value.slice al i cl).ownBlock = some q ∨ w.heap.size ≤ q := fun q hq => by
     rcases b7 q hq with h | h
     ·exact .inl h
     ·exact .inr (Nat.le_trans K5.out.size h)
    refine ⟨⟨.slice al i cl, .slice a1 (i + 1) c1, .slice a2 (i + 2) c2, .slice a3 (i + 3) c3, .string m⟩, ⟨⟨vT, vI, vO, (.slice a8 (bk.E.length + 1) c8), ?_, own_kept' g2 (fun j cs _ hj => hoth j cs 191 hj (by decide) (by decide) (by decide)), own_kept' g3 (fun j cs _ hj => hoth j cs 193 hj (by decide) (by decide) (by decide)), own_kept' g4 (fun j cs _ hj => hoth j cs 195 hj (by decide) (by decide) (by decide)), by rw [List.length_append]; exact b2⟩, fun e he => ?_, fun e he => ?_, fun e he => ?_, fun e he => ?_⟩, hbk, hK, K5.out.trans b10⟩
    ·rw [show (((bk.n + 1 : Nat)) : Int) = (bk.n : Int) + 1 by omega]
     exact b1
    ·obtain ⟨a9, b9', c9⟩ := HH.out.T e he
     exact ⟨a9.kept (fun q cur hq hc => hent q cur 9 (.inl ⟨e, he, hq⟩) hc (by decide) (by decide)), b9', fun q hq => hup q (c9 q hq)⟩
    ·obtain ⟨a9, b9', c9⟩ := HH.out.I e he
     exact ⟨a9.kept (fun q cur hq hc => hent q cur 3 (.inr (.inl ⟨e, he, hq⟩)) hc (by decide) (by decide)), b9', fun q hq => hup q (c9 q hq)⟩
    ·obtain ⟨a9, b9', c9⟩ := HH.out.O e he
     exact ⟨a9.kept (fun q cur hq hc => hent q cur 72 (.inr (.inr (.inl ⟨e, he, hq⟩))) hc (by decide) (by decide)), b9', fun q hq => hup q (c9 q hq)⟩
    ·rcases List.mem_append.1 he with he1 | he1
     ·obtain ⟨a9, b9', c9⟩ := HH.out.E e he1
      exact ⟨a9.kept (fun q cur hq hc => hent q cur 70 (.inr (.inr (.inr ⟨e, he1, hq⟩))) hc (by decide) (by decide)), b9', fun q hq => hup q (c9 q hq)⟩
     ·rw [List.mem_singleton.1 he1]
      exact ⟨⟨own_ful b6 rfl (by omega), b3, b4, b5⟩, ⟨_, rfl⟩, fun q hq => ⟨(by rcases b7 q hq with h | h; exact own_ge b6 q h; exact Nat.le_trans (Nat.le_trans hbw K5.out.size) h), b8 q hq⟩⟩
   clear hB8 b1 b2 b3 b4 b5 b6 b7 b8 b9 b10 hr8 hj0 y0 y1 y2 hi0 z0 z1 z2
   go_region_law (refine step_app rfl (.tmp 57) (.tmp 59) 30 rfl _ _ _ (by simp [Act.eval]) (by simp [Act.eval]) _ HR8.out ?_)
   all_goals go_end0
   all_goals exact ⟨rfl, HEND.out⟩
end Go.Proofs.YtadinjaocnlglaaGreatDoor
