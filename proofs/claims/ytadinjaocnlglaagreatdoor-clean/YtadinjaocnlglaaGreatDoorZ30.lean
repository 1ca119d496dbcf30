/-
  The walks of lent, list, still, sameTexts.
-/
import Derived.Test.YtadinjaocnlglaaGreatDoorZ28
import Derived.BigRegion
import Derived.BigQuiet
import Derived.Deep.QuietTactic
import Derived.Deep.RegionWith
import Derived.Deep.RegionHeld3
namespace Go.Proofs.YtadinjaocnlglaaGreatDoor
open Go.RowKit
set_option maxHeartbeats 1000000
set_option maxRecDepth 100000
/-- "behind" -/
def bhdT : ByteArray := ⟨#[98, 101, 104, 105, 110, 100]⟩
/-- a list with something behind it -/
def lF (L : Nat → ByteArray) (n : Nat) : Nat → Value := fun i => .string (if i < n then L i else bhdT)
/-- a list that is handed over -/
structure LentAt (w : World) (x g1 g2 n : Nat) (nl : Bool) (L : Nat → ByteArray) : Prop where
  obj : w.heap[x]? = some (.cells #[.slice (some ⟨g1, 0, none⟩) (n + 8) (n + 8), .slice (some ⟨g2, 0, none⟩) (n + 8) (n + 8), .int .i64 n, .bool nl] 204 (0, 0))
  all : Rw w g1 (n + 8) 9 (lF L n)
  want : Rw w g2 (n + 8) 9 (lF L n)
  ne : g1 ≠ g2
/-- the texts of a list that came in -/
def In (w : World) (a : Option Addr) (n : Nat) (L : Nat → ByteArray) : Prop := ∀ i, i < n → ∃ b off, a = some ⟨b, off, none⟩ ∧ b < w.heap.size ∧ w.cell? ⟨b, off + i, none⟩ = some (.string (L i))
theorem In.below {w w' : World} {a : Option Addr} {n : Nat} {L : Nat → ByteArray} (h : In w a n L) (hb : Below w.heap.size w w') : In w' a n L := fun i hi => by
  obtain ⟨b, off, ha, hl, hc⟩ := h i hi
  exact ⟨b, off, ha, Nat.lt_of_lt_of_le hl hb.size, (hb.cell (p := ⟨b, off + i, none⟩) hl).trans hc⟩
theorem eql_nil (a : Option Addr) (n cap : Nat) (W : World) : (binOp .eql 42 (.slice a n cap) (.slice none 0 0)).run Tryz.prog W = .ok (.bool a.isNone) W := by cases a <;> kernel_rfl
theorem lent_any (L : Nat → ByteArray) (a : Option Addr) (n cap : Nat) (w : World) (hn : n ≤ 4398046511104) (hI : In w a n L) :
    Calls Tryz.prog 59 #[.slice a n cap] w fun e w' => ∃ g1 g2, e = .returned (.pointer (some ⟨w.heap.size, 0, none⟩)) ∧ w.heap.size < g1 ∧ w.heap.size < g2 ∧ LentAt w' w.heap.size g1 g2 n a.isNone L ∧ Below w.heap.size w w' := by
  have HI : Hid (In w a n L) := hI
  clear hI
  obtain ⟨m, hm, hmk⟩ : ∃ m, m = n + 8 ∧ ∀ W : World, (Instr.makeSlice 42 (.int .i64 ((n : Int) + 8)) (.int .i64 ((n : Int) + 8))).run Tryz.prog W = .ok (.slice (some ⟨W.heap.size, 0, none⟩) m m) (W.alloc (.cells (madeCells #[.string ⟨#[]⟩] m) 9)) := by
    refine ⟨n + 8, rfl, fun W => ?_⟩
    rw [show ((n : Int) + 8) = ((n + 8 : Nat) : Int) by omega]
    exact run_make_row' (P := Tryz.prog) 42 9 (.string ⟨#[]⟩) 16 Tryz.underlying42 info9 rfl .i64 .i64 (n + 8) (by omega) (by omega) W
  have HM : Hid _ := hm
  have hmb : m ≤ 4398046511112 := by omega
  clear hm
  have hnil := fun W => eql_nil a n cap W
  go_enter Tryz.func59, Tryz.ntmps59
  go_wp2
  obtain ⟨x, hx⟩ : ∃ x, x = w.heap.size := ⟨_, rfl⟩
  obtain ⟨w0, hw0⟩ : ∃ w0, w0 = (((w.alloc (Obj.cells #[Value.slice (some { block := w.heap.size + 1, off := 0 }) m m, Value.slice (some { block := w.heap.size + 1 + 1, off := 0 }) m m, Value.int IntKind.i64 ↑n, Value.bool a.isNone] 204)).alloc (Obj.cells (madeCells #[Value.string { data := #[] }] m) 9)).alloc (Obj.cells (madeCells #[Value.string { data := #[] }] m) 9)) := ⟨_, rfl⟩
  have hz0 : w0.heap.size = w.heap.size + 3 := by rw [hw0]; simp
  have hB0 : Below w.heap.size w w0 := by rw [hw0]; exact ((((Below.refl _ w).alloc (Nat.le_refl _) _)).alloc (by simp) _).alloc (by simp; omega) _
  have hO0 : w0.heap[w.heap.size]? = some (.cells #[.slice (some ⟨w.heap.size + 1, 0, none⟩) m m, .slice (some ⟨w.heap.size + 1 + 1, 0, none⟩) m m, .int .i64 n, .bool a.isNone] 204 (0, 0)) := by
    rw [hw0, Below.heap_alloc _ _ _ (by simp; omega), Below.heap_alloc _ _ _ (by simp)]; exact heap_alloc_new _ _
  have hA0 : Rw w0 (w.heap.size + 1) m 9 (fun _ => .string ⟨#[]⟩) := by
    have h1 := Rw.made (w.alloc (Obj.cells #[Value.slice (some { block := w.heap.size + 1, off := 0 }) m m, Value.slice (some { block := w.heap.size + 1 + 1, off := 0 }) m m, Value.int IntKind.i64 ↑n, Value.bool a.isNone] 204)) m 9 (.string ⟨#[]⟩)
    have e : (w.alloc (Obj.cells #[Value.slice (some { block := w.heap.size + 1, off := 0 }) m m, Value.slice (some { block := w.heap.size + 1 + 1, off := 0 }) m m, Value.int IntKind.i64 ↑n, Value.bool a.isNone] 204)).heap.size = w.heap.size + 1 := by simp
    rw [e] at h1
    rw [hw0]; exact h1.alloc _
  have hW0 : Rw w0 (w.heap.size + 1 + 1) m 9 (fun _ => .string ⟨#[]⟩) := by
    have h1 := Rw.made ((w.alloc (Obj.cells #[Value.slice (some { block := w.heap.size + 1, off := 0 }) m m, Value.slice (some { block := w.heap.size + 1 + 1, off := 0 }) m m, Value.int IntKind.i64 ↑n, Value.bool a.isNone] 204)).alloc (Obj.cells (madeCells #[Value.string { data := #[] }] m) 9)) m 9 (.string ⟨#[]⟩)
    have e : ((w.alloc (Obj.cells #[Value.slice (some { block := w.heap.size + 1, off := 0 }) m m, Value.slice (some { block := w.heap.size + 1 + 1, off := 0 }) m m, Value.int IntKind.i64 ↑n, Value.bool a.isNone] 204)).alloc (Obj.cells (madeCells #[Value.string { data := #[] }] m) 9)).heap.size = w.heap.size + 1 + 1 := by simp
    rw [e] at h1
    rw [hw0]; exact h1
  rw [← hw0]
  obtain ⟨g1, hg1⟩ : ∃ g1, g1 = w.heap.size + 1 := ⟨_, rfl⟩
  obtain ⟨g2, hg2⟩ : ∃ g2, g2 = w.heap.size + 1 + 1 := ⟨_, rfl⟩
  rw [← hg2] at hO0 hW0 ⊢
  rw [← hg1] at hO0 hA0 ⊢
  have k1 : w.heap.size < g1 := by omega
  have k2 : w.heap.size < g2 := by omega
  have k3 : g1 ≠ g2 := by omega
  rw [← hx] at hO0 hB0 k1 k2 ⊢
  have HX : Hid _ := hx
  clear hw0 hg1 hg2 hz0 hx
  go_loopw [4] (fun kv wr => ∃ k : Nat, k ≤ m ∧ kv = .int .i64 k ∧ wr.heap[x]? = some (.cells #[.slice (some ⟨g1, 0, none⟩) m m, .slice (some ⟨g2, 0, none⟩) m m, .int .i64 n, .bool a.isNone] 204 (0, 0)) ∧ Rw wr g1 m 9 (part' k (lF L n) (.string ⟨#[]⟩)) ∧ Rw wr g2 m 9 (part' k (lF L n) (.string ⟨#[]⟩)) ∧ Below x w wr) (fun kv _ => m - (intOf kv).toNat)
  case atStart => exact ⟨0, by omega, rfl, hO0, hA0.to (fun j _ => (part_0 _ _ j).symm), hW0.to (fun j _ => (part_0 _ _ j).symm), hB0⟩
  case round =>
    obtain ⟨k, hk, rfl, hO, hA, hW, hB⟩ := hrel
    have o0 : wr.cell? ⟨x, 0, none⟩ = some (.slice (some ⟨g1, 0, none⟩) m m) := cell_of_row _ _ _ _ 204 _ hO
    have o1 : wr.cell? ⟨x, 1, none⟩ = some (.slice (some ⟨g2, 0, none⟩) m m) := cell_of_row _ _ _ _ 204 _ hO
    by_cases hlt : k < m
    · have c1 := hA.cell k hlt
      have f1 := hA.free k
      have n1 : x ≠ g1 := by omega
      have n2 : x ≠ g2 := by omega
      have HA1 : Hid (Rw (wr.setCell ⟨g1, k, none⟩ (.string bhdT)) g1 m 9 (updV (part' k (lF L n) (.string ⟨#[]⟩)) k (.string bhdT))) := hA.put k _
      have HW1 : Hid (Rw (wr.setCell ⟨g1, k, none⟩ (.string bhdT)) g2 m 9 (part' k (lF L n) (.string ⟨#[]⟩))) := hW.other _ _ (by simp; omega)
      have HO1 : Hid ((wr.setCell ⟨g1, k, none⟩ (.string bhdT)).heap[x]? = some (.cells #[.slice (some ⟨g1, 0, none⟩) m m, .slice (some ⟨g2, 0, none⟩) m m, .int .i64 n, .bool a.isNone] 204 (0, 0))) := by
        show (wr.setCell ⟨g1, k, none⟩ (.string bhdT)).heap[x]? = _
        rw [heap_setCell_other wr ⟨g1, k, none⟩ x _ (by simpa using n1)]; exact hO
      have HB1 : Hid (Below x w (wr.setCell ⟨g1, k, none⟩ (.string bhdT))) := hB.setCell (by simp; omega) _
      have hk0 : (0 : Int) ≤ (k : Int) := by omega
      have hkm : (k : Int) < (m : Int) := by omega
      by_cases hkn : k < n
      · obtain ⟨b, off, ha, hbl, hc⟩ := HI.out k hkn
        subst ha
        have hkn' : (k : Int) < (n : Int) := by omega
        clear hA hW hO hB
        go_wp2
        rw [show ({ data := #[98, 101, 104, 105, 110, 100] } : ByteArray) = bhdT from rfl]
        obtain ⟨w1, hw1⟩ : ∃ w1, w1 = wr.setCell ⟨g1, k, none⟩ (.string bhdT) := ⟨_, rfl⟩
        rw [← hw1] at HA1 HW1 HO1 HB1 ⊢
        clear hw1 c1 f1 o0 o1
        have c1 := HA1.out.cell k hlt
        have f1 := HA1.out.free k
        have o0 : w1.cell? ⟨x, 0, none⟩ = some (.slice (some ⟨g1, 0, none⟩) m m) := cell_of_row _ _ _ _ 204 _ HO1.out
        have ci : w1.cell? ⟨b, off + k, none⟩ = some (.string (L k)) := (HB1.out.cell (p := ⟨b, off + k, none⟩) (by have := HX.out; show b < x; omega)).trans hc
        clear hc
        go_region
        have hV : lF L n k = .string (L k) := by unfold lF; rw [if_pos hkn]
        have HV : Hid _ := hV
        have HA2 : Hid (Rw (w1.setCell ⟨g1, k, none⟩ (.string (L k))).drew g1 m 9 (part' (k + 1) (lF L n) (.string ⟨#[]⟩))) := ((HA1.out.put k _).to (fun j _ => by rw [← part_step, hV]; unfold updV; split <;> rfl)).drew
        have HW2 : Hid (Rw (w1.setCell ⟨g1, k, none⟩ (.string (L k))).drew g2 m 9 (part' k (lF L n) (.string ⟨#[]⟩))) := (HW1.out.other _ _ (by simp; omega)).drew
        have HO2 : Hid ((w1.setCell ⟨g1, k, none⟩ (.string (L k))).drew.heap[x]? = some (.cells #[.slice (some ⟨g1, 0, none⟩) m m, .slice (some ⟨g2, 0, none⟩) m m, .int .i64 n, .bool (some (⟨b, off, none⟩ : Addr)).isNone] 204 (0, 0))) := by
          show (w1.setCell ⟨g1, k, none⟩ (.string (L k))).heap[x]? = _
          rw [heap_setCell_other w1 ⟨g1, k, none⟩ x _ (by simpa using n1)]; exact HO1.out
        have HB2 : Hid (Below x w (w1.setCell ⟨g1, k, none⟩ (.string (L k))).drew) := (HB1.out.setCell (by simp; omega) _).drew
        obtain ⟨w2, hw2⟩ : ∃ w2, w2 = (w1.setCell ⟨g1, k, none⟩ (.string (L k))).drew := ⟨_, rfl⟩
        rw [← hw2] at HA2 HW2 HO2 HB2 ⊢
        clear hw2 c1 f1 o0 ci HA1 HW1 HO1 HB1
        go_wp2
        have c1 := HA2.out.cell k hlt
        rw [show part' (k + 1) (lF L n) (.string ⟨#[]⟩) k = .string (L k) by unfold part'; rw [if_pos (by omega), hV]] at c1
        have c2 := HW2.out.cell k hlt
        have f2 := HW2.out.free k
        have o0 : w2.cell? ⟨x, 0, none⟩ = some (.slice (some ⟨g1, 0, none⟩) m m) := cell_of_row _ _ _ _ 204 _ HO2.out
        have o1 : w2.cell? ⟨x, 1, none⟩ = some (.slice (some ⟨g2, 0, none⟩) m m) := cell_of_row _ _ _ _ 204 _ HO2.out
        clear hV
        go_region
        have hA3 : Rw ((w2.setCell ⟨g2, k, none⟩ (.string (L k))).drew) g1 m 9 (part' (k + 1) (lF L n) (.string ⟨#[]⟩)) := (HA2.out.other _ _ (by simp; omega)).drew
        have hW3 : Rw ((w2.setCell ⟨g2, k, none⟩ (.string (L k))).drew) g2 m 9 (part' (k + 1) (lF L n) (.string ⟨#[]⟩)) := ((HW2.out.put k _).to (fun j _ => by rw [← part_step]; congr 1; exact (HV.out).symm)).drew
        have hO3 : ((w2.setCell ⟨g2, k, none⟩ (.string (L k))).drew).heap[x]? = some (.cells #[.slice (some ⟨g1, 0, none⟩) m m, .slice (some ⟨g2, 0, none⟩) m m, .int .i64 n, .bool (some (⟨b, off, none⟩ : Addr)).isNone] 204 (0, 0)) := by
          show (w2.setCell ⟨g2, k, none⟩ (.string (L k))).heap[x]? = _
          rw [heap_setCell_other w2 ⟨g2, k, none⟩ x _ (by simpa using n2)]; exact HO2.out
        have hB3 : Below x w ((w2.setCell ⟨g2, k, none⟩ (.string (L k))).drew) := (HB2.out.setCell (by simp; omega) _).drew
        clear c1 c2 f2 o0 o1
        go_wp2
        go_roundw
        case rel => exact ⟨k + 1, by omega, by go_num, hO3, hA3, hW3, hB3⟩
        case measure => simp [intOf]; omega
      · have hkn' : ¬ (k : Int) < (n : Int) := by omega
        have hd : decide ((k : Int) < (n : Int)) = false := by simp; omega
        have hV : lF L n k = .string bhdT := by unfold lF; rw [if_neg hkn]
        have HV : Hid _ := hV
        clear hA hW hO hB
        go_wp2
        rw [show ({ data := #[98, 101, 104, 105, 110, 100] } : ByteArray) = bhdT from rfl]
        have HA2 : Hid (Rw (wr.setCell ⟨g1, k, none⟩ (.string bhdT)) g1 m 9 (part' (k + 1) (lF L n) (.string ⟨#[]⟩))) := HA1.out.to (fun j _ => by rw [← part_step, hV])
        obtain ⟨w1, hw1⟩ : ∃ w1, w1 = wr.setCell ⟨g1, k, none⟩ (.string bhdT) := ⟨_, rfl⟩
        rw [← hw1] at HA2 HW1 HO1 HB1 ⊢
        clear hw1 c1 f1 o0 o1 HA1
        have c1 := HA2.out.cell k hlt
        rw [show part' (k + 1) (lF L n) (.string ⟨#[]⟩) k = .string bhdT by unfold part'; rw [if_pos (by omega), hV]] at c1
        have c2 := HW1.out.cell k hlt
        have f2 := HW1.out.free k
        have o0 : w1.cell? ⟨x, 0, none⟩ = some (.slice (some ⟨g1, 0, none⟩) m m) := cell_of_row _ _ _ _ 204 _ HO1.out
        have o1 : w1.cell? ⟨x, 1, none⟩ = some (.slice (some ⟨g2, 0, none⟩) m m) := cell_of_row _ _ _ _ 204 _ HO1.out
        clear hV
        go_region
        have hA3 : Rw ((w1.setCell ⟨g2, k, none⟩ (.string (bhdT))).drew) g1 m 9 (part' (k + 1) (lF L n) (.string ⟨#[]⟩)) := (HA2.out.other _ _ (by simp; omega)).drew
        have hW3 : Rw ((w1.setCell ⟨g2, k, none⟩ (.string (bhdT))).drew) g2 m 9 (part' (k + 1) (lF L n) (.string ⟨#[]⟩)) := ((HW1.out.put k _).to (fun j _ => by rw [← part_step]; congr 1; exact (HV.out).symm)).drew
        have hO3 : ((w1.setCell ⟨g2, k, none⟩ (.string (bhdT))).drew).heap[x]? = some (.cells #[.slice (some ⟨g1, 0, none⟩) m m, .slice (some ⟨g2, 0, none⟩) m m, .int .i64 n, .bool a.isNone] 204 (0, 0)) := by
          show (w1.setCell ⟨g2, k, none⟩ (.string (bhdT))).heap[x]? = _
          rw [heap_setCell_other w1 ⟨g2, k, none⟩ x _ (by simpa using n2)]; exact HO1.out
        have hB3 : Below x w ((w1.setCell ⟨g2, k, none⟩ (.string (bhdT))).drew) := (HB1.out.setCell (by simp; omega) _).drew
        clear c1 c2 f2 o0 o1
        go_wp2
        go_roundw
        case rel => exact ⟨k + 1, by omega, by go_num, hO3, hA3, hW3, hB3⟩
        case measure => simp [intOf]; omega
    · have e : k = m := by omega
      subst e
      have hm := HM.out
      go_wp2
      go_ret
      subst hm
      have hxx := HX.out
      subst hxx
      exact ⟨g1, g2, rfl, k1, k2, ⟨hO, hA.to (fun j hj => by simp [part', hj]), hW.to (fun j hj => by simp [part', hj]), k3⟩, hB⟩
/-- a list of texts that may be nil -/
def Lt (w : World) (v : Value) (n : Nat) (L : Nat → ByteArray) : Prop := (v = .slice none 0 0 ∧ n = 0) ∨ ∃ b cap, v = .slice (some ⟨b, 0, none⟩) n cap ∧ n ≤ cap ∧ b < w.heap.size ∧ Cl w b n (tI L)
theorem list_any (L : Nat → ByteArray) (x g1 g2 n : Nat) (nl : Bool) (w : World) (hn : n ≤ 4398046511104) (hL : LentAt w x g1 g2 n nl L) (hnl : nl = true → n = 0) :
    Calls Tryz.prog 61 #[.pointer (some ⟨x, 0, none⟩)] w fun e w' => ∃ v, e = .returned v ∧ (∃ q, w' = w.drewN q) ∧ ((v = .slice none 0 0 ∧ n = 0) ∨ v = .slice (some ⟨g1, 0, none⟩) n (n + 8)) := by
  have o0 : w.cell? ⟨x, 0, none⟩ = some (.slice (some ⟨g1, 0, none⟩) (n + 8) (n + 8)) := cell_of_row _ _ _ _ 204 _ hL.obj
  have o2 : w.cell? ⟨x, 2, none⟩ = some (.int .i64 n) := cell_of_row _ _ _ _ 204 _ hL.obj
  have o3 : w.cell? ⟨x, 3, none⟩ = some (.bool nl) := cell_of_row _ _ _ _ 204 _ hL.obj
  clear hL
  cases nl with
  | true =>
    obtain rfl : n = 0 := hnl rfl
    clear hnl
    go_enter Tryz.func61, Tryz.ntmps61
    go_wp2
    go_ret
    exact ⟨_, rfl, ⟨0, rfl⟩, .inl ⟨rfl, trivial⟩⟩
  | false =>
    clear hnl
    go_enter Tryz.func61, Tryz.ntmps61
    go_wp2
    go_quiet (fail)
    go_wp2
    go_ret
    exact ⟨_, rfl, ⟨_, rfl⟩, .inr rfl⟩
theorem same_anyq (A B : Nat → ByteArray) (n b cap b2 cap2 : Nat) (w : World) (hn : n ≤ 9000000000000) (hA : Cl w b n (tI A)) (hB : Cl w b2 n (tI B)) (h : ∀ i, i < n → A i = B i) :
    Calls Tryz.prog 99 #[.slice (some ⟨b, 0, none⟩) n cap, .slice (some ⟨b2, 0, none⟩) n cap2] w fun e w' => e = .returned (.bool true) ∧ ∃ q, w' = w.drewN q := by
  have HA : Hid _ := hA
  have HB : Hid _ := hB
  have H : Hid _ := h
  clear hA hB h
  go_enter Tryz.func99, Tryz.ntmps99
  go_wp2
  go_loopw [5] (fun iv wr => ∃ i q : Nat, i ≤ n ∧ iv = .int .i64 i ∧ wr = w.drewN q) (fun iv _ => n - (intOf iv).toNat)
  case atStart => exact ⟨0, 0, by omega, rfl, rfl⟩
  case round =>
    obtain ⟨i, q, hi, rfl, hq⟩ := hrel
    by_cases hlt : i < n
    · have c1 : wr.cell? ⟨b, i, none⟩ = some (.string (A i)) := by rw [hq]; exact HA.out i hlt
      have c2 : wr.cell? ⟨b2, i, none⟩ = some (.string (A i)) := by rw [hq, H.out i hlt]; exact HB.out i hlt
      have HQ : Hid _ := hq
      clear hq
      have hi0' : (0 : Int) ≤ (i : Int) := by omega
      have hin' : (i : Int) < (n : Int) := by omega
      go_wp2
      go_quiet (fail)
      go_wp2
      go_roundw
      case rel => exact ⟨i + 1, _, by omega, by go_num, by rw [HQ.out, World.drewN_drewN]⟩
      case measure => simp [intOf]; omega
    · go_wp2
      go_ret
      exact ⟨rfl, q, rfl⟩
theorem same_0 (a1 a2 : Option Addr) (c1 c2 : Nat) (w : World) :
    Calls Tryz.prog 99 #[.slice a1 0 c1, .slice a2 0 c2] w fun e w' => e = .returned (.bool true) ∧ ∃ q, w' = w.drewN q := by
  go_enter Tryz.func99, Tryz.ntmps99
  go_wp2
  refine wp_loop_rounds 1 ?_
  rw [rounds_succ]
  go_wp2
  go_ret
  exact ⟨rfl, 0, rfl⟩
/-- "gone" -/
def gn : ByteArray := ⟨#[103, 111, 110, 101]⟩
theorem still_any (L : Nat → ByteArray) (x g1 g2 n B : Nat) (nl : Bool) (w : World) (hn : n ≤ 4398046511104) (hL : LentAt w x g1 g2 n nl L) (hB : B ≤ g1) (hx : x ≠ g1) :
    Calls Tryz.prog 62 #[.pointer (some ⟨x, 0, none⟩)] w fun e w' => e = .returned (.bool true) ∧ Below B w w' ∧ ∀ q, q ≠ g1 → w'.heap[q]? = w.heap[q]? := by
  obtain ⟨m, hm⟩ : ∃ m, m = n + 8 := ⟨_, rfl⟩
  have hmb : m ≤ 4398046511112 := by omega
  have hO : w.heap[x]? = some (.cells #[.slice (some ⟨g1, 0, none⟩) m m, .slice (some ⟨g2, 0, none⟩) m m, .int .i64 n, .bool nl] 204 (0, 0)) := by rw [hm]; exact hL.obj
  have o0 : w.cell? ⟨x, 0, none⟩ = some (.slice (some ⟨g1, 0, none⟩) m m) := cell_of_row _ _ _ _ 204 _ hO
  have o1 : w.cell? ⟨x, 1, none⟩ = some (.slice (some ⟨g2, 0, none⟩) m m) := cell_of_row _ _ _ _ 204 _ hO
  have HA : Hid (Rw w g1 m 9 (lF L n)) := by show Rw w g1 m 9 (lF L n); rw [hm]; exact hL.all
  have HW : Hid (Rw w g2 m 9 (lF L n)) := by show Rw w g2 m 9 (lF L n); rw [hm]; exact hL.want
  have HO : Hid _ := hO
  clear hL hm hO
  go_enter Tryz.func62, Tryz.ntmps62
  go_wp2
  go_quiet (first | (go_at_call 99; exact Calls.quiet_of (same_anyq (fun i => if i < n then L i else bhdT) (fun i => if i < n then L i else bhdT) m g1 m g2 m _ (by omega) (HA.out.drewN _).cl (HW.out.drewN _).cl (fun _ _ => rfl))))
  obtain ⟨w1, hq⟩ : ∃ w1, w1 = w.drewN nq := ⟨_, rfl⟩
  rw [← hq]
  have HA1 : Hid (Rw w1 g1 m 9 (lF L n)) := by show Rw w1 g1 m 9 (lF L n); rw [hq]; exact HA.out.drewN nq
  have HO1 : Hid (w1.heap[x]? = some (.cells #[.slice (some ⟨g1, 0, none⟩) m m, .slice (some ⟨g2, 0, none⟩) m m, .int .i64 n, .bool nl] 204 (0, 0))) := by show w1.heap[x]? = _; rw [hq]; exact HO.out
  have HQ1 : Hid (∀ q, q ≠ g1 → w1.heap[q]? = w.heap[q]?) := by intro q _; rw [hq]; rfl
  have HB1 : Hid (Below B w w1) := by show Below B w w1; rw [hq]; exact below_drewN (Below.refl _ _) nq
  clear hq o0 o1 HA HW HO
  go_wp2
  go_loopw [4] (fun kv wr => ∃ (k : Nat) (f : Nat → Value), k ≤ m ∧ kv = .int .i64 k ∧ wr.heap[x]? = some (.cells #[.slice (some ⟨g1, 0, none⟩) m m, .slice (some ⟨g2, 0, none⟩) m m, .int .i64 n, .bool nl] 204 (0, 0)) ∧ Rw wr g1 m 9 f ∧ Below B w wr ∧ ∀ q, q ≠ g1 → wr.heap[q]? = w.heap[q]?) (fun kv _ => m - (intOf kv).toNat)
  case atStart => exact ⟨0, _, by omega, rfl, HO1.out, HA1.out, HB1.out, HQ1.out⟩
  case round =>
    obtain ⟨k, f, hk, rfl, hO, hA, hBr, hQr⟩ := hrel
    have o0 : wr.cell? ⟨x, 0, none⟩ = some (.slice (some ⟨g1, 0, none⟩) m m) := cell_of_row _ _ _ _ 204 _ hO
    by_cases hlt : k < m
    · have c1 := hA.cell k hlt
      have f1 := hA.free k
      have HO3 : Hid ((wr.setCell ⟨g1, k, none⟩ (.string gn)).heap[x]? = some (.cells #[.slice (some ⟨g1, 0, none⟩) m m, .slice (some ⟨g2, 0, none⟩) m m, .int .i64 n, .bool nl] 204 (0, 0))) := by
        show (wr.setCell ⟨g1, k, none⟩ (.string gn)).heap[x]? = _
        rw [heap_setCell_other wr ⟨g1, k, none⟩ x _ (by simpa using hx)]; exact hO
      have HA3 : Hid (Rw (wr.setCell ⟨g1, k, none⟩ (.string gn)) g1 m 9 (updV f k (.string gn))) := hA.put k _
      have HB3 : Hid (Below B w (wr.setCell ⟨g1, k, none⟩ (.string gn))) := hBr.setCell (by simpa using hB) _
      have HQ3 : Hid (∀ q, q ≠ g1 → (wr.setCell ⟨g1, k, none⟩ (.string gn)).heap[q]? = w.heap[q]?) := fun q hq => by rw [heap_setCell_other wr ⟨g1, k, none⟩ q _ (by simpa using hq)]; exact hQr q hq
      clear hO hA hBr hQr
      go_wp2
      go_roundw
      case rel => exact ⟨k + 1, _, by omega, by go_num, HO3.out, HA3.out, HB3.out, HQ3.out⟩
      case measure => simp [intOf]; omega
    · go_wp2
      go_ret
      exact ⟨rfl, hBr, hQr⟩
end Go.Proofs.YtadinjaocnlglaaGreatDoor
