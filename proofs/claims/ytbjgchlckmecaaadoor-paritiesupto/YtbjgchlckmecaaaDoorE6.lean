/-
  The walk of looks.
-/
import Derived.Test.YtbjgchlckmecaaaDoorE5
namespace Go.Proofs.YtbjgchlckmecaaaDoor
open Go.RowKit
set_option maxRecDepth 100000
set_option maxHeartbeats 2000000
theorem flat_len : ∀ X : List En, (flat X).length = X.length * 5
  | [] => rfl
  | e :: X => by rw [flat, List.flatMap_cons, List.length_append]; have := flat_len X; rw [flat] at this; rw [this]; simp [En.vals]; omega
theorem flat_get : ∀ (X : List En) (i f : Nat) (h : i < X.length), f < 5 → (flat X)[i * 5 + f]? = X[i].vals[f]?
  | [], i, f, h, _ => by simp at h
  | e :: X, 0, f, _, hf => by
    rw [flat, List.flatMap_cons, List.getElem?_append_left (by simp [En.vals]; omega)]; simp
  | e :: X, i + 1, f, h, hf => by
    have hl : e.vals.length = 5 := rfl
    rw [flat, List.flatMap_cons, List.getElem?_append_right (by rw [hl]; omega), hl, show (i + 1) * 5 + f - 5 = i * 5 + f by omega]
    exact flat_get X i f (by simpa using h) hf
theorem own_flat {w : World} {base c : Nat} {a : Option Addr} {X : List En} (h : w.ownsRow base 54 5 (.slice a X.length c) X.length (flat X)) (i : Nat) (hi : i < X.length) : ∃ g, a = some ⟨g, 0, none⟩ ∧ g < w.heap.size ∧ ∀ f, (hf : f < 5) → w.cell? ⟨g, i * 5 + f, none⟩ = (X[i].vals)[f]? := by
  rcases h.2 with ⟨_, h'⟩ | ⟨g, cap, cur, hv, hb, hh, _⟩
  · omega
  · obtain rfl : a = some ⟨g, 0, none⟩ := by simp at hv; exact hv.1
    refine ⟨g, rfl, (Array.getElem?_eq_some_iff.1 hh).1, fun f hf => ?_⟩
    rw [h.cellAt (i * 5 + f) (by omega), flat_get X i f hi hf]
theorem looks_any (X : List En) (B base : Nat) (n v : Value) (w : World)
    (hB : w.heap[B]? = some (.cells #[n, v, .slice none 0 0, .slice none 0 0, .slice none 0 0] 29 (0, 0)))
    (hXl : X.length ≤ 1000000000) (hv : w.ownsRow base 54 5 v X.length (flat X)) (hX : ∀ e ∈ X, e.ok w) :
    Calls Tryd.prog 6 #[.pointer (some ⟨B, 0, none⟩)] w fun e w' => e = .returned (.bool true) ∧ Below w.heap.size w w' := by
  have HB : Hid (w.heap[B]? = some (.cells #[n, v, .slice none 0 0, .slice none 0 0, .slice none 0 0] 29 (0, 0))) := hB
  have HV : Hid _ := hv
  have HX : Hid (∀ e ∈ X, e.ok w) := hX
  have hBl : B < w.heap.size := (Array.getElem?_eq_some_iff.1 hB).1
  obtain ⟨a, c, hs⟩ := own_shape hv
  subst hs
  clear hB hv hX
  go_enter Tryd.func6, Tryd.ntmps6
  go_wp2
  go_loopw [3] (fun iv wr => ∃ i : Nat, i ≤ X.length ∧ iv = .int .i64 i ∧ Below w.heap.size w wr) (fun iv _ => X.length - (intOf iv).toNat)
  case atStart => exact ⟨0, by omega, rfl, Below.refl _ _⟩
  case round =>
    obtain ⟨i, hi, rfl, hb⟩ := hrel
    have hBr : wr.heap[B]? = some (.cells #[n, .slice a X.length c, .slice none 0 0, .slice none 0 0, .slice none 0 0] 29 (0, 0)) := by rw [hb.block B hBl]; exact HB.out
    have o1 : wr.cell? ⟨B, 1, none⟩ = some (.slice a X.length c) := cell_of_row _ _ _ _ 29 _ hBr
    by_cases hlt : i < X.length
    · obtain ⟨g, ha, hgl, hc⟩ := own_flat HV.out i hlt
      subst ha
      obtain ⟨e, he⟩ : ∃ e, X[i] = e := ⟨_, rfl⟩
      have hok : e.ok wr := (HX.out e (by rw [← he]; exact List.getElem_mem hlt)).kp (Kp.below hb)
      rw [he] at hc
      obtain ⟨el, ea, eb, ec, em⟩ := e
      obtain ⟨f1, f2, f3, f4⟩ := hok
      have F1 : Hid (Full wr el em) := f1
      have F2 : Hid (Full wr ea em) := f2
      have F3 : Hid (Full wr eb em) := f3
      have F4 : Hid (Full wr ec em) := f4
      obtain ⟨l1, l2, l3, hl, _⟩ := f1
      subst hl
      obtain ⟨m1, m2, m3, hm, _⟩ := f2
      subst hm
      obtain ⟨p1, p2, p3, hp, _⟩ := f3
      subst hp
      obtain ⟨q1, q2, q3, hq, _⟩ := f4
      subst hq
      have c0 : wr.cell? ⟨g, i * 5, none⟩ = some (.slice l1 l2 l3) := (hb.cell (p := ⟨g, i * 5, none⟩) hgl).trans (hc 0 (by omega))
      have c1 : wr.cell? ⟨g, i * 5 + 1, none⟩ = some (.slice m1 m2 m3) := (hb.cell (p := ⟨g, i * 5 + 1, none⟩) hgl).trans (hc 1 (by omega))
      have c2 : wr.cell? ⟨g, i * 5 + 2, none⟩ = some (.slice p1 p2 p3) := (hb.cell (p := ⟨g, i * 5 + 2, none⟩) hgl).trans (hc 2 (by omega))
      have c3 : wr.cell? ⟨g, i * 5 + 3, none⟩ = some (.slice q1 q2 q3) := (hb.cell (p := ⟨g, i * 5 + 3, none⟩) hgl).trans (hc 3 (by omega))
      have c4 : wr.cell? ⟨g, i * 5 + 4, none⟩ = some (.string em) := (hb.cell (p := ⟨g, i * 5 + 4, none⟩) hgl).trans (hc 4 (by omega))
      have hi0 : (0 : Int) ≤ (i : Int) := by omega
      have hin : (i : Int) < (X.length : Int) := by omega
      have HBB : Hid _ := hb
      clear hc hb he hBr
      go_wp2_with fail
      have hrow : (wr.alloc (Obj.cells #[Value.slice l1 l2 l3, Value.slice m1 m2 m3, Value.slice p1 p2 p3, Value.slice q1 q2 q3, Value.string em] 54)).heap[wr.heap.size]? = some (.cells #[Value.slice l1 l2 l3, Value.slice m1 m2 m3, Value.slice p1 p2 p3, Value.slice q1 q2 q3, Value.string em] 54 (0, 0)) := heap_alloc_new _ _
      obtain ⟨w1, hw1⟩ : ∃ w1, w1 = wr.alloc (Obj.cells #[Value.slice l1 l2 l3, Value.slice m1 m2 m3, Value.slice p1 p2 p3, Value.slice q1 q2 q3, Value.string em] 54) := ⟨_, rfl⟩
      have HB1 : Hid (Below wr.heap.size wr w1) := by show Below wr.heap.size wr w1; rw [hw1]; exact (Below.refl _ _).alloc (Nat.le_refl _) _
      rw [← hw1] at hrow ⊢
      clear hw1 c0 c1 c2 c3 c4 o1
      obtain ⟨x, hx⟩ : ∃ x, x = wr.heap.size := ⟨_, rfl⟩
      rw [← hx] at hrow ⊢
      have HXX : Hid _ := hx
      have G1 : Hid (Full w1 (.slice l1 l2 l3) em) := Full.kp F1.out (Kp.below HB1.out)
      have G2 : Hid (Full w1 (.slice m1 m2 m3) em) := Full.kp F2.out (Kp.below HB1.out)
      have G3 : Hid (Full w1 (.slice p1 p2 p3) em) := Full.kp F3.out (Kp.below HB1.out)
      have G4 : Hid (Full w1 (.slice q1 q2 q3) em) := Full.kp F4.out (Kp.below HB1.out)
      have HR : Hid (w1.heap[x]? = some (.cells #[Value.slice l1 l2 l3, Value.slice m1 m2 m3, Value.slice p1 p2 p3, Value.slice q1 q2 q3, Value.string em] 54 (0, 0))) := hrow
      clear hx hrow F1 F2 F3 F4
      refine (full_any _ _ _ G1.out).mono ?_
      rintro e' w2 ⟨rfl, y1, hy1⟩
      have G2x : Hid (Full w2 (.slice m1 m2 m3) em) := by show Full w2 _ em; rw [hy1]; exact Full.kp G2.out (fun _ _ _ _ _ h => h)
      have G3x : Hid (Full w2 (.slice p1 p2 p3) em) := by show Full w2 _ em; rw [hy1]; exact Full.kp G3.out (fun _ _ _ _ _ h => h)
      have G4x : Hid (Full w2 (.slice q1 q2 q3) em) := by show Full w2 _ em; rw [hy1]; exact Full.kp G4.out (fun _ _ _ _ _ h => h)
      have HR' : Hid (w2.heap[x]? = some (.cells #[Value.slice l1 l2 l3, Value.slice m1 m2 m3, Value.slice p1 p2 p3, Value.slice q1 q2 q3, Value.string em] 54 (0, 0))) := by show w2.heap[x]? = _; rw [hy1]; exact HR.out
      have HB2 : Hid (Below wr.heap.size wr w2) := by show Below wr.heap.size wr w2; rw [hy1]; exact below_drewN HB1.out y1
      clear hy1 HR
      have HR : Hid _ := HR'.out
      clear HR'
      have r0 : w2.cell? ⟨x, 0, none⟩ = some (.slice l1 l2 l3) := cell_of_row _ _ _ _ 54 _ HR.out
      have r1 : w2.cell? ⟨x, 1, none⟩ = some (.slice m1 m2 m3) := cell_of_row _ _ _ _ 54 _ HR.out
      have r2 : w2.cell? ⟨x, 2, none⟩ = some (.slice p1 p2 p3) := cell_of_row _ _ _ _ 54 _ HR.out
      have r3 : w2.cell? ⟨x, 3, none⟩ = some (.slice q1 q2 q3) := cell_of_row _ _ _ _ 54 _ HR.out
      have r4 : w2.cell? ⟨x, 4, none⟩ = some (.string em) := cell_of_row _ _ _ _ 54 _ HR.out
      have G2 : Hid _ := G2x.out
      clear G2x
      have G3 : Hid _ := G3x.out
      clear G3x
      have G4 : Hid _ := G4x.out
      clear G4x
      go_wp2_with fail
      refine (full_any _ _ _ G2.out).mono ?_
      rintro e' w3 ⟨rfl, y2, hy2⟩
      have G3x : Hid (Full w3 (.slice p1 p2 p3) em) := by show Full w3 _ em; rw [hy2]; exact Full.kp G3.out (fun _ _ _ _ _ h => h)
      have G4x : Hid (Full w3 (.slice q1 q2 q3) em) := by show Full w3 _ em; rw [hy2]; exact Full.kp G4.out (fun _ _ _ _ _ h => h)
      have HR' : Hid (w3.heap[x]? = some (.cells #[Value.slice l1 l2 l3, Value.slice m1 m2 m3, Value.slice p1 p2 p3, Value.slice q1 q2 q3, Value.string em] 54 (0, 0))) := by show w3.heap[x]? = _; rw [hy2]; exact HR.out
      have HB3 : Hid (Below wr.heap.size wr w3) := by show Below wr.heap.size wr w3; rw [hy2]; exact below_drewN HB2.out y2
      clear hy2 HR r0 r1 r2 r3 r4
      have HR : Hid _ := HR'.out
      clear HR'
      have r0 : w3.cell? ⟨x, 0, none⟩ = some (.slice l1 l2 l3) := cell_of_row _ _ _ _ 54 _ HR.out
      have r1 : w3.cell? ⟨x, 1, none⟩ = some (.slice m1 m2 m3) := cell_of_row _ _ _ _ 54 _ HR.out
      have r2 : w3.cell? ⟨x, 2, none⟩ = some (.slice p1 p2 p3) := cell_of_row _ _ _ _ 54 _ HR.out
      have r3 : w3.cell? ⟨x, 3, none⟩ = some (.slice q1 q2 q3) := cell_of_row _ _ _ _ 54 _ HR.out
      have r4 : w3.cell? ⟨x, 4, none⟩ = some (.string em) := cell_of_row _ _ _ _ 54 _ HR.out
      have G3 : Hid _ := G3x.out
      clear G3x
      have G4 : Hid _ := G4x.out
      clear G4x
      go_wp2_with fail
      refine (full_any _ _ _ G3.out).mono ?_
      rintro e' w4 ⟨rfl, y3, hy3⟩
      have G4x : Hid (Full w4 (.slice q1 q2 q3) em) := by show Full w4 _ em; rw [hy3]; exact Full.kp G4.out (fun _ _ _ _ _ h => h)
      have HR' : Hid (w4.heap[x]? = some (.cells #[Value.slice l1 l2 l3, Value.slice m1 m2 m3, Value.slice p1 p2 p3, Value.slice q1 q2 q3, Value.string em] 54 (0, 0))) := by show w4.heap[x]? = _; rw [hy3]; exact HR.out
      have HB4 : Hid (Below wr.heap.size wr w4) := by show Below wr.heap.size wr w4; rw [hy3]; exact below_drewN HB3.out y3
      clear hy3 HR r0 r1 r2 r3 r4
      have HR : Hid _ := HR'.out
      clear HR'
      have r0 : w4.cell? ⟨x, 0, none⟩ = some (.slice l1 l2 l3) := cell_of_row _ _ _ _ 54 _ HR.out
      have r1 : w4.cell? ⟨x, 1, none⟩ = some (.slice m1 m2 m3) := cell_of_row _ _ _ _ 54 _ HR.out
      have r2 : w4.cell? ⟨x, 2, none⟩ = some (.slice p1 p2 p3) := cell_of_row _ _ _ _ 54 _ HR.out
      have r3 : w4.cell? ⟨x, 3, none⟩ = some (.slice q1 q2 q3) := cell_of_row _ _ _ _ 54 _ HR.out
      have r4 : w4.cell? ⟨x, 4, none⟩ = some (.string em) := cell_of_row _ _ _ _ 54 _ HR.out
      have G4 : Hid _ := G4x.out
      clear G4x
      go_wp2_with fail
      refine (full_any _ _ _ G4.out).mono ?_
      rintro e' w5 ⟨rfl, y4, hy4⟩
      have HR' : Hid (w5.heap[x]? = some (.cells #[Value.slice l1 l2 l3, Value.slice m1 m2 m3, Value.slice p1 p2 p3, Value.slice q1 q2 q3, Value.string em] 54 (0, 0))) := by show w5.heap[x]? = _; rw [hy4]; exact HR.out
      have HB5 : Hid (Below wr.heap.size wr w5) := by show Below wr.heap.size wr w5; rw [hy4]; exact below_drewN HB4.out y4
      clear hy4 HR r0 r1 r2 r3 r4
      have HR : Hid _ := HR'.out
      clear HR'
      have r0 : w5.cell? ⟨x, 0, none⟩ = some (.slice l1 l2 l3) := cell_of_row _ _ _ _ 54 _ HR.out
      have r1 : w5.cell? ⟨x, 1, none⟩ = some (.slice m1 m2 m3) := cell_of_row _ _ _ _ 54 _ HR.out
      have r2 : w5.cell? ⟨x, 2, none⟩ = some (.slice p1 p2 p3) := cell_of_row _ _ _ _ 54 _ HR.out
      have r3 : w5.cell? ⟨x, 3, none⟩ = some (.slice q1 q2 q3) := cell_of_row _ _ _ _ 54 _ HR.out
      have r4 : w5.cell? ⟨x, 4, none⟩ = some (.string em) := cell_of_row _ _ _ _ 54 _ HR.out
      have hbz : Below w.heap.size w w5 := HBB.out.trans (HB5.out.mono HBB.out.size)
      clear r0 r1 r2 r3 r4
      go_wp2
      go_roundw
      case rel => exact ⟨i + 1, by omega, by go_num, hbz⟩
      case measure => simp [intOf]; omega
    · have o2 : wr.cell? ⟨B, 2, none⟩ = some (.slice none 0 0) := cell_of_row _ _ _ _ 29 _ hBr
      have o3 : wr.cell? ⟨B, 3, none⟩ = some (.slice none 0 0) := cell_of_row _ _ _ _ 29 _ hBr
      have o4 : wr.cell? ⟨B, 4, none⟩ = some (.slice none 0 0) := cell_of_row _ _ _ _ 29 _ hBr
      clear hBr
      go_wp2
      refine wp_loop_rounds 1 ?_
      rw [rounds_succ]
      go_wp2
      refine wp_loop_rounds 1 ?_
      rw [rounds_succ]
      go_wp2
      refine wp_loop_rounds 1 ?_
      rw [rounds_succ]
      go_wp2
      go_ret
      exact ⟨rfl, hb⟩
end Go.Proofs.YtbjgchlckmecaaaDoor
