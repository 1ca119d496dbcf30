/-
  The walks of layout.CheckParams (nothing refused) and of vaultkeep's params.
  The walks of draft's New, checkState (neither closed nor broken), letGo.
  A text's bytes put behind a row that is owned, inside a region that draws.
  The walk of vaultkeep's params.
  The walk of draft's Write (nothing refused).
  Footprints: what a call may write, and what it leaves alone.
  The reader of fields.
  The reader: a field of so many bytes, a word, the rest.
  The reader: the varint of a number, read.
-/
import Derived.Test.YtadinjaocnlglaaGreatDoorZ04
import Derived.Lib.AppendStr
import Derived.Deep.RegionLaw
import Derived.StillTailTactics
import Derived.BigQuiet
import Derived.Deep.RegionHeld3
import Derived.BigRegion
import Derived.Laws.BitsAllLaws
namespace Go.Proofs.YtadinjaocnlglaaGreatDoor
open Go.RowKit
set_option maxRecDepth 100000
set_option maxHeartbeats 1000000
theorem set_heap (w : World) (g k : Nat) (v : Value) (cs : Array Value) (t : TypeId) (fr : Nat × Nat) (h : w.heap[g]? = some (.cells cs t fr)) : (w.setCell ⟨g, k, none⟩ v).heap[g]? = some (.cells (cs.setIfInBounds k v) t fr) := by
 simp [World.setCell, Array.getElem?_modify, h]
theorem set_other (w : World) (g k j : Nat) (v : Value) (h : j ≠ g) : (w.setCell ⟨g, k, none⟩ v).heap[j]? = w.heap[j]? := Below.heap_setCell _ _ _ _ (by simpa using h)
theorem still_tail_drew {P : Program} {id : Nat} {Q : Exit → Act → World → Prop} {a : Act} {w : World} {l : List Oper} (n : Nat) (hm : P.follows .mixedOrders = true) (hB : Region.lexTailB .any l.toArray n = true)
  (h : wpStill P l.toArray w.drew (fun a' => wpList P l.toArray Q (l.drop n) a' w.drew) (l.take n) a) : (Code.region id l.toArray true).wp P Q a w :=
 wp_region_still_tail n hm hB h
def Calm (w w' : World) : Prop := w'.os = w.os ∧ w'.tape = w.tape ∧ w'.output = w.output
theorem Calm.trans {a b c : World} (h : Calm a b) (k : Calm b c) : Calm a c := ⟨k.1.trans h.1, k.2.1.trans h.2.1, k.2.2.trans h.2.2⟩
theorem Calm.below {B : Nat} {a b : World} (h : Below B a b) : Calm a b := ⟨h.os, h.tape, h.output⟩
theorem Calm.grown {a b : World} {r : Option Nat} (h : a.grownBy b r) : Calm a b := ⟨h.os, h.tape, h.output⟩
theorem Calm.set {a b : World} (h : Calm a b) (p : Addr) (v : Value) : Calm a (b.setCell p v) := h
structure Fr (S : Nat → Prop) (w w' : World) : Prop where
 size : w.heap.size ≤ w'.heap.size
 old : ∀ j, j < w.heap.size → ¬ S j → w'.heap[j]? = w.heap[j]?
 calm : Calm w w'
def Gro (S S' : Nat → Prop) (n : Nat) : Prop := ∀ j, S' j → S j ∨ n ≤ j
theorem Gro.refl (S : Nat → Prop) (n : Nat) : Gro S S n := fun _ h => .inl h
theorem Calm.refl (w : World) : Calm w w := ⟨rfl, rfl, rfl⟩
theorem Fr.refl (S : Nat → Prop) (w : World) : Fr S w w := ⟨Nat.le_refl _, fun _ _ _ => rfl, Calm.refl w⟩
theorem Fr.below {S : Nat → Prop} {w w' : World} (h : Below w.heap.size w w') : Fr S w w' := ⟨h.size, fun j hj _ => h.block j hj, Calm.below h⟩
theorem Fr.toBelow {w w' : World} (h : Fr (fun _ => False) w w') : Below w.heap.size w w' := ⟨h.calm.1, h.calm.2.1, h.calm.2.2, h.size, fun k hk => h.old k hk (fun h => h)⟩
theorem Fr.mono {S T : Nat → Prop} {w w' : World} (h : Fr S w w') (hs : ∀ j, j < w.heap.size → S j → T j) : Fr T w w' := ⟨h.size, fun j hj hn => h.old j hj (fun hs' => hn (hs j hj hs')), h.calm⟩
theorem Fr.trans {S S1 : Nat → Prop} {w w1 w2 : World} (h : Fr S w w1) (hg : Gro S S1 w.heap.size) (h2 : Fr S1 w1 w2) : Fr S w w2 :=
 ⟨Nat.le_trans h.size h2.size, fun j hj hn => by
  rw [h2.old j (Nat.lt_of_lt_of_le hj h.size) (fun hs => by rcases hg j hs with h3 | h3; exact hn h3; omega)]; exact h.old j hj hn, h.calm.trans h2.calm⟩
theorem Fr.trans' {S : Nat → Prop} {w w1 w2 : World} (h : Fr S w w1) (h2 : Fr S w1 w2) : Fr S w w2 := h.trans (Gro.refl _ _) h2
theorem Fr.thenBelow {S : Nat → Prop} {w w1 w2 : World} (h : Fr S w w1) (h2 : Below w1.heap.size w1 w2) : Fr S w w2 := h.trans' (Fr.below h2)
theorem Fr.set {S : Nat → Prop} {w w' : World} {g : Nat} (h : Fr S w w') (hg : S g ∨ w.heap.size ≤ g) (k : Nat) (v : Value) : Fr S w (w'.setCell ⟨g, k, none⟩ v) :=
 ⟨by have := h.size; simpa [World.setCell] using this, fun j hj hn => by
  rw [set_other _ _ _ _ _ (fun e => by subst e; rcases hg with h3 | h3; exact hn h3; omega)]; exact h.old j hj hn, h.calm.set _ _⟩
theorem Fr.alloc {S : Nat → Prop} {w w' : World} (h : Fr S w w') (o : Obj) : Fr S w (w'.alloc o) :=
 h.thenBelow ((Below.refl _ _).alloc (Nat.le_refl _) _)
theorem Fr.drew {S : Nat → Prop} {w w' : World} (h : Fr S w w') : Fr S w w'.drew := h.thenBelow ((Below.refl _ _).drew)
theorem Fr.grown {S : Nat → Prop} {w w1 w2 : World} {row : Option Nat} (h : Fr S w w1) (hg : w1.grownBy w2 row) (hr : ∀ q, row = some q → S q ∨ w.heap.size ≤ q) : Fr S w w2 :=
 ⟨Nat.le_trans h.size hg.size, fun j hj hn => by
  rw [hg.block j (Nat.lt_of_lt_of_le hj h.size) (fun e => by rcases hr j e.symm with h3 | h3; exact hn h3; omega)]; exact h.old j hj hn, h.calm.trans (Calm.grown hg)⟩
theorem Fr.cell {S : Nat → Prop} {w w' : World} {g : Nat} (h : Fr S w w') (hg : g < w.heap.size) (hn : ¬ S g) (k : Nat) : w'.cell? ⟨g, k, none⟩ = w.cell? ⟨g, k, none⟩ := World.cell?_of_block (h.old g hg hn)
theorem own_kept {w w' : World} {base : Nat} {e : TypeId} {size : Nat} {v : Value} {n : Nat} {xs : List Value} (h : w.ownsRow base e size v n xs) (hb : ∀ q, v.ownBlock = some q → w'.heap[q]? = w.heap[q]?) : w'.ownsRow base e size v n xs := by
 refine ⟨h.1, ?_⟩
 rcases h.2 with h2 | ⟨g, cap, cur, hv, hg, hh, rest⟩
 ·exact .inl h2
 ·exact .inr ⟨g, cap, cur, hv, hg, by rw [hb g (by rw [hv]; rfl)]; exact hh, rest⟩
set_option maxHeartbeats 4000000
structure RS where
 text : ByteArray
 field : Nat
 next : Nat
 wrong : Bool
def rC (s : RS) : Array Value := #[.string s.text, .int .i64 s.field, .int .i64 s.next, .bool s.wrong]
structure RI (r : Nat) (s : RS) (w : World) : Prop where
 row : w.heap[r]? = some (.cells (rC s) 410 (0, 0))
 fn : s.field ≤ s.next
 nt : s.next ≤ s.text.size
 small : s.text.size ≤ 1000000000
def RDid (r : Nat) (s : RS) (w w' : World) : Prop := RI r s w' ∧ Fr (fun j => j = r) w w'
theorem RI.c0 {r : Nat} {s : RS} {w : World} (h : RI r s w) : w.cell? ⟨r, 0, none⟩ = some (.string s.text) := cell_of_row _ _ _ _ 410 _ h.row
theorem RI.c1 {r : Nat} {s : RS} {w : World} (h : RI r s w) : w.cell? ⟨r, 1, none⟩ = some (.int .i64 s.field) := cell_of_row _ _ _ _ 410 _ h.row
theorem RI.c2 {r : Nat} {s : RS} {w : World} (h : RI r s w) : w.cell? ⟨r, 2, none⟩ = some (.int .i64 s.next) := cell_of_row _ _ _ _ 410 _ h.row
theorem RI.c3 {r : Nat} {s : RS} {w : World} (h : RI r s w) : w.cell? ⟨r, 3, none⟩ = some (.bool s.wrong) := cell_of_row _ _ _ _ 410 _ h.row
theorem RI.fz {r : Nat} {s : RS} {w : World} (h : RI r s w) (k : Nat) : w.frozen? ⟨r, k, none⟩ = false := frozen_of_row _ _ _ _ 410 h.row
theorem RI.low {r : Nat} {s : RS} {w w' : World} (h : RI r s w) (hb : Below w.heap.size w w') : RI r s w' := ⟨by rw [hb.block r (Array.getElem?_eq_some_iff.1 h.row).1]; exact h.row, h.fn, h.nt, h.small⟩
theorem RDid.same {r : Nat} {s : RS} {w w' : World} (h : RI r s w) (hb : Below w.heap.size w w') : RDid r s w w' := ⟨h.low hb, Fr.below hb⟩
theorem RDid.then {r : Nat} {s s' : RS} {w w1 w2 : World} (h : RDid r s w w1) (h2 : RDid r s' w1 w2) : RDid r s' w w2 := ⟨h2.1, h.2.trans' h2.2⟩
def RS.refuse (s : RS) : RS := { s with wrong := true }
def RS.begin (s : RS) : RS := if s.wrong then s else { s with field := s.next }
def RS.bytes (s : RS) (n : Nat) : RS × ByteArray :=
 if s.wrong then (s, ⟨#[]⟩) else if s.text.size - s.next < n then ({ s with field := s.next, wrong := true }, ⟨#[]⟩) else ({ s with field := s.next, next := s.next + n }, s.text.extract s.next (s.next + n))
theorem rnew (t : ByteArray) (w : World) (ht : t.size ≤ 1000000000) : Calls Tryz.prog 245 #[.string t] w fun e w' => ∃ r, e = .returned (.pointer (some ⟨r, 0, none⟩)) ∧ w.heap.size ≤ r ∧ RI r ⟨t, 0, 0, false⟩ w' ∧ Below w.heap.size w w' := by
 go_enter Tryz.func245, Tryz.ntmps245
 go_wp2
 go_ret
 exact ⟨_, rfl, Nat.le_refl _, ⟨heap_alloc_new _ _, Nat.le_refl _, Nat.zero_le _, ht⟩, (Below.refl _ _).alloc (Nat.le_refl _) _⟩
theorem rplace (r : Nat) (s : RS) (w : World) (h : RI r s w) : Calls Tryz.prog 248 #[.pointer (some ⟨r, 0, none⟩)] w fun e w' => e = .returned (.int .i64 s.next) ∧ w' = w := by
 have c2 := h.c2
 clear h
 go_enter Tryz.func248, Tryz.ntmps248
 go_wp2
 go_ret
 exact ⟨rfl, rfl⟩
theorem rwrong (r : Nat) (s : RS) (w : World) (h : RI r s w) : Calls Tryz.prog 250 #[.pointer (some ⟨r, 0, none⟩)] w fun e w' => e = .returned (.tuple #[.int .i64 s.field, .bool s.wrong]) ∧ Below w.heap.size w w' := by
 have c1 := h.c1
 have c3 := h.c3
 clear h
 go_enter Tryz.func250, Tryz.ntmps250
 go_wp2_with fail
 go_quiet (fail)
 go_wp2
 go_ret2
 exact ⟨rfl, below_drewN (Below.refl _ _) _⟩
theorem rrefuse (r : Nat) (s : RS) (w : World) (h : RI r s w) : Calls Tryz.prog 290 #[.pointer (some ⟨r, 0, none⟩)] w fun e w' => e = .returned (.tuple #[]) ∧ RDid r s.refuse w w' := by
 have c3 := h.c3
 have f3 := h.fz 3
 have HD : Hid (RDid r s.refuse w (w.setCell ⟨r, 3, none⟩ (.bool true))) := ⟨⟨set_heap w r 3 _ _ _ _ h.row, h.fn, h.nt, h.small⟩, (Fr.refl (fun j => j = r) w).set (g := r) (.inl rfl) 3 _⟩
 clear h
 go_enter Tryz.func290, Tryz.ntmps290
 go_wp2
 go_end0
 exact ⟨rfl, HD.out⟩
theorem rbeg (r : Nat) (s : RS) (w : World) (h : RI r s w) : Calls Tryz.prog 291 #[.pointer (some ⟨r, 0, none⟩)] w fun e w' => e = .returned (.bool (!s.wrong)) ∧ RDid r s.begin w w' := by
 have c2 := h.c2
 have c1 := h.c1
 have c3 := h.c3
 have f1 := h.fz 1
 cases hw : s.wrong with
 | true =>
  rw [hw] at c3
  have e : s.begin = s := by unfold RS.begin; rw [hw]; rfl
  rw [e]
  have H : Hid _ := h
  clear h e
  go_enter Tryz.func291, Tryz.ntmps291
  go_wp2
  go_ret
  exact ⟨rfl, RDid.same H.out (Below.refl _ _)⟩
 | false =>
  rw [hw] at c3
  have e : s.begin = { s with field := s.next } := by unfold RS.begin; rw [hw]; rfl
  rw [e]
  have HD : Hid (RDid r { s with field := s.next } w (w.setCell ⟨r, 1, none⟩ (.int .i64 s.next))) := ⟨⟨set_heap w r 1 _ _ _ _ h.row, Nat.le_refl _, h.nt, h.small⟩, (Fr.refl (fun j => j = r) w).set (g := r) (.inl rfl) 1 _⟩
  clear h e
  go_enter Tryz.func291, Tryz.ntmps291
  go_wp2
  go_ret
  exact ⟨rfl, HD.out⟩
theorem sclone (s : ByteArray) (w : World) (hs : s.size ≤ 140737488351232) : Calls Tryz.prog 150 #[.string s] w fun e w' => e = .returned (.string s) ∧ Below w.heap.size w w' := by
 have H : Hid _ := clone_any s w hs
 go_enter Tryz.func150, Tryz.ntmps150
 go_wp2_with fail
 refine Calls.mono H.out ?_
 rintro e w1 ⟨rfl, hb⟩
 have HB : Hid _ := hb
 clear hb
 go_wp2
 go_ret
 exact ⟨rfl, HB.out⟩
theorem rsince (r : Nat) (s : RS) (p : Nat) (w : World) (h : RI r s w) (hp : p ≤ s.next) : Calls Tryz.prog 247 #[.pointer (some ⟨r, 0, none⟩), .int .i64 p] w fun e w' => e = .returned (.string (s.text.extract p s.next)) ∧ Below w.heap.size w w' := by
 have c0 := h.c0
 have c2 := h.c2
 have hnt := h.nt
 have hsm := h.small
 have hrl : r < w.heap.size := (Array.getElem?_eq_some_iff.1 h.row).1
 obtain ⟨t, f, n, b⟩ := s
 simp only at c0 c2 hnt hsm hp ⊢
 have H : Hid (∀ V : World, Calls Tryz.prog 150 #[.string (t.extract p n)] V fun e w' => e = .returned (.string (t.extract p n)) ∧ Below V.heap.size V w') := fun V => sclone _ V (by rw [ByteArray.size_extract]; omega)
 have h1 : (p : Int) ≤ (n : Int) := by omega
 have h2 : (n : Int) ≤ (t.size : Int) := by omega
 have h0 : (0 : Int) ≤ (p : Int) := by omega
 clear h
 go_enter Tryz.func247, Tryz.ntmps247
 go_wp2_with fail
 go_region_held3 (fun w2 => w2.cell? ⟨r, 0, none⟩ = some (.string t) ∧ w2.cell? ⟨r, 2, none⟩ = some (.int .i64 n)) (go_keep) ((go_at_call 150; refine Calls.mono (H.out _) ?_; rintro e w2 ⟨rfl, hb2⟩; have hB2 : Below w.heap.size w w2 := (by first | exact hb2 | exact ((Below.refl _ _).drew).trans hb2); have q0 := (hB2.cell (p := ⟨r, 0, none⟩) hrl).trans c0; have q2 := (hB2.cell (p := ⟨r, 2, none⟩) hrl).trans c2))
 have HB : Hid _ := hB2
 clear hB2 hb2 q0 q2
 go_wp2
 go_ret
 exact ⟨rfl, HB.out⟩
theorem RI.begin {r : Nat} {s : RS} {w w' : World} (hw : s.wrong = false) (h : RDid r s.begin w w') : RDid r { s with field := s.next } w w' := by
 have e : s.begin = { s with field := s.next } := by unfold RS.begin; rw [hw]; rfl
 rw [e] at h; exact h
theorem rbytes (r : Nat) (s : RS) (n : Nat) (w : World) (h : RI r s w) (hn : n ≤ 1000000000) : Calls Tryz.prog 249 #[.pointer (some ⟨r, 0, none⟩), .int .i64 n] w fun e w' => e = .returned (.string (s.bytes n).2) ∧ RDid r (s.bytes n).1 w w' := by
 have HB : Hid _ := rbeg r s w h
 have hnt := h.nt
 have hsm := h.small
 cases hw : s.wrong with
 | true =>
  have e1 : s.bytes n = (s, ⟨#[]⟩) := by unfold RS.bytes; rw [hw]; rfl
  have e2 : s.begin = s := by unfold RS.begin; rw [hw]; rfl
  rw [e1]
  rw [hw, e2] at HB
  clear h e1 e2
  go_enter Tryz.func249, Tryz.ntmps249
  go_wp2_with fail
  refine Calls.mono HB.out ?_
  rintro e w1 ⟨rfl, hD⟩
  have HD : Hid _ := hD
  clear hD
  go_wp2
  go_ret
  exact ⟨rfl, HD.out⟩
 | false =>
  rw [hw] at HB
  by_cases hbig : s.text.size - s.next < n
  ·have e1 : s.bytes n = ({ s with field := s.next, wrong := true }, ⟨#[]⟩) := by unfold RS.bytes; rw [hw]; simp [hbig]
   rw [e1]
   have hgt : (n : Int) > (s.text.size : Int) - (s.next : Int) := by omega
   have HW : Hid _ := hw
   clear h e1
   go_enter Tryz.func249, Tryz.ntmps249
   go_wp2_with fail
   refine Calls.mono HB.out ?_
   rintro e w1 ⟨rfl, hD⟩
   have hD1 := RI.begin HW.out hD
   have c0 := hD1.1.c0
   have c2 := hD1.1.c2
   have HD1 : Hid _ := hD1
   have hsub : IntKind.i64.wrap ((s.text.size : Int) - (s.next : Int)) = (s.text.size : Int) - (s.next : Int) := by rw [IntKind.wrap_i64]; omega
   clear hD hD1
   go_wp2_with fail
   go_quiet (fail)
   have HR : Hid (∀ V : World, Below w1.heap.size w1 V → Calls Tryz.prog 290 #[.pointer (some ⟨r, 0, none⟩)] V fun e w' => e = .returned (.tuple #[]) ∧ RDid r { s with field := s.next, wrong := true } w w') := fun V hV => by
    have hI := RI.low HD1.out.1 hV
    refine (rrefuse r _ V hI).mono ?_
    rintro e w' ⟨rfl, hR⟩
    exact ⟨rfl, hR.1, (HD1.out.2.thenBelow hV).trans' hR.2⟩
   clear c0 c2
   go_wp2_with fail
   refine Calls.mono (HR.out _ (below_drewN (Below.refl _ _) _)) ?_
   rintro e w2 ⟨rfl, hR⟩
   have HRR : Hid _ := hR
   clear hR
   go_wp2
   go_ret
   exact ⟨rfl, HRR.out⟩
  ·have e1 : s.bytes n = ({ s with field := s.next, next := s.next + n }, s.text.extract s.next (s.next + n)) := by unfold RS.bytes; rw [hw]; simp [hbig]
   rw [e1]
   have hgt : ¬ ((n : Int) > (s.text.size : Int) - (s.next : Int)) := by omega
   have HW : Hid _ := hw
   clear h e1
   go_enter Tryz.func249, Tryz.ntmps249
   go_wp2_with fail
   refine Calls.mono HB.out ?_
   rintro e w1 ⟨rfl, hD⟩
   have hD1 := RI.begin HW.out hD
   have c0 := hD1.1.c0
   have c1 := hD1.1.c1
   have c2 := hD1.1.c2
   have f2 := hD1.1.fz 2
   have HD1 : Hid _ := hD1
   have hsub : IntKind.i64.wrap ((s.text.size : Int) - (s.next : Int)) = (s.text.size : Int) - (s.next : Int) := by rw [IntKind.wrap_i64]; omega
   have hadd : IntKind.i64.wrap ((s.next : Int) + (n : Int)) = ((s.next + n : Nat) : Int) := by rw [IntKind.wrap_i64]; omega
   clear hD hD1
   go_wp2_with fail
   go_quiet (fail)
   have HV : Hid (Below w1.heap.size w1 (w1.drewN nq)) := below_drewN (Below.refl _ _) _
   obtain ⟨V, hV⟩ : ∃ V, w1.drewN nq = V := ⟨_, rfl⟩
   rw [hV] at HV ⊢
   have hIV := RI.low HD1.out.1 HV.out
   have d1 := hIV.c1
   have d2 := hIV.c2
   have g2 := hIV.fz 2
   obtain ⟨V2, hV2⟩ : ∃ V2, V.setCell ⟨r, 2, none⟩ (.int .i64 ((s.next : Int) + (n : Int))) = V2 := ⟨_, rfl⟩
   have hI2 : RI r { s with field := s.next, next := s.next + n } V2 := by
    rw [← hV2]
    have hrow := set_heap V r 2 (.int .i64 ((s.next : Int) + (n : Int))) _ _ _ hIV.row
    rw [show (s.next : Int) + (n : Int) = ((s.next + n : Nat) : Int) by omega] at hrow ⊢
    exact ⟨hrow, by simp, by show s.next + n ≤ s.text.size; omega, hsm⟩
   have HS : Hid _ := rsince r _ s.next V2 hI2 (by simp)
   have HI2 : Hid _ := hI2
   have HF2 : Hid (Fr (fun j => j = r) w V2) := by
    show Fr _ _ _
    rw [← hV2]
    exact (HD1.out.2.thenBelow HV.out).set (g := r) (.inl rfl) 2 _
   have k1 := hI2.c1
   clear hV c0 c1 c2 f2 hIV hI2
   go_wp2_with fail
   try rw [hV2]
   refine Calls.mono HS.out ?_
   rintro e w3 ⟨rfl, hb3⟩
   have HF : Hid (RDid r { s with field := s.next, next := s.next + n } w w3) := ⟨RI.low HI2.out hb3, HF2.out.thenBelow hb3⟩
   clear hb3
   go_wp2
   go_ret
   exact ⟨rfl, HF.out⟩
def RS.word (s : RS) (t : ByteArray) : RS := if (s.bytes t.size).2 = t then (s.bytes t.size).1 else (s.bytes t.size).1.refuse
theorem rword (r : Nat) (s : RS) (t : ByteArray) (w : World) (h : RI r s w) (ht : t.size ≤ 1000000000) : Calls Tryz.prog 287 #[.pointer (some ⟨r, 0, none⟩), .string t] w fun e w' => e = .returned (.tuple #[]) ∧ RDid r (s.word t) w w' := by
 have HB : Hid _ := rbytes r s t.size w h ht
 unfold RS.word
 obtain ⟨s1, hs1⟩ : ∃ s1, (s.bytes t.size).1 = s1 := ⟨_, rfl⟩
 obtain ⟨t1, ht1⟩ : ∃ t1, (s.bytes t.size).2 = t1 := ⟨_, rfl⟩
 rw [hs1, ht1] at HB ⊢
 clear h hs1 ht1
 by_cases he : t1 = t
 ·subst he
  rw [if_pos rfl]
  go_enter Tryz.func287, Tryz.ntmps287
  go_wp2_with fail
  refine Calls.mono HB.out ?_
  rintro e w1 ⟨rfl, hD⟩
  have HD : Hid _ := hD
  clear hD
  go_wp2
  go_end0
  exact ⟨rfl, HD.out⟩
 ·rw [if_neg he]
  have hc : (t1.toList == t.toList) = false := by
   rw [beq_eq_false_iff_ne, ByteArray.toList_eq, ByteArray.toList_eq]
   exact fun e => he (ByteArray.ext (Array.toList_inj.1 e))
  go_enter Tryz.func287, Tryz.ntmps287
  go_wp2_with fail
  refine Calls.mono HB.out ?_
  rintro e w1 ⟨rfl, hD⟩
  have HR : Hid _ := rrefuse r s1 w1 hD.1
  have HD : Hid _ := hD
  clear hD
  go_wp2_with fail
  refine Calls.mono HR.out ?_
  rintro e w2 ⟨rfl, hR⟩
  have HF : Hid _ := RDid.then HD.out hR
  clear hR
  go_wp2
  go_end0
  exact ⟨rfl, HF.out⟩
theorem rrest (r : Nat) (s : RS) (w : World) (h : RI r s w) : Calls Tryz.prog 292 #[.pointer (some ⟨r, 0, none⟩)] w fun e w' => e = .returned (.string (s.bytes (s.text.size - s.next)).2) ∧ RDid r (s.bytes (s.text.size - s.next)).1 w w' := by
 have c0 := h.c0
 have c2 := h.c2
 have hnt := h.nt
 have hsm := h.small
 obtain ⟨m, hm⟩ : ∃ m, s.text.size - s.next = m := ⟨_, rfl⟩
 have HB : Hid (∀ V : World, Below w.heap.size w V → Calls Tryz.prog 249 #[.pointer (some ⟨r, 0, none⟩), .int .i64 m] V fun e w' => e = .returned (.string (s.bytes m).2) ∧ RDid r (s.bytes m).1 w w') := fun V hV => by
  refine (rbytes r s m V (h.low hV) (by omega)).mono ?_
  rintro e w' ⟨rfl, hD⟩
  exact ⟨rfl, hD.1, (Fr.below hV).trans' hD.2⟩
 rw [hm]
 have hsub : (s.text.size : Int) - (s.next : Int) = (m : Int) := by omega
 have hwr : IntKind.i64.wrap (m : Int) = (m : Int) := by rw [IntKind.wrap_i64]; omega
 clear h hm
 go_enter Tryz.func292, Tryz.ntmps292
 go_wp2_with fail
 refine still_tail_drew 11 (by kernel_rfl) (by kernel_rfl) ?_
 simp only [List.take_succ_cons, List.take_zero, List.drop_succ_cons, List.drop_zero]
 repeat still_step
 refine wpStill_nil ?_
 go_wp2_with fail
 refine Calls.mono (HB.out _ (by first | exact Below.refl _ _ | exact (Below.refl _ _).drew)) ?_
 rintro e w2 ⟨rfl, hD2⟩
 have HD : Hid _ := hD2
 clear hD2
 go_wp2
 go_ret
 exact ⟨rfl, HD.out⟩
def vrF (t : ByteArray) : Nat → Nat → Nat → Nat × Nat
 | _, _, 0 => (0, 0)
 | i, sum, k + 1 => if h : i < t.size then
   if 128 ≤ t[i].toNat then vrF t (i + 1) (sum + t[i].toNat % 128 * 128 ^ i) k
   else if 4294967295 < sum + t[i].toNat % 128 * 128 ^ i ∨ (t[i].toNat = 0 ∧ 0 < i) then (0, 0) else (sum + t[i].toNat % 128 * 128 ^ i, i + 1)
  else (0, 0)
def vrd (t : ByteArray) : Nat × Nat := vrF t 0 0 5
theorem andn_all : ∀ y : Fin 256, bits .andNot .u8 ((y.val : Nat) : Int) 128 = ((y.val % 128 : Nat) : Int) := by decide +kernel
theorem low_bits {a b m : Nat} (i : Nat) (hm : 2 ^ i = m) (h : a < m) : a ||| (b * m) = b * m + a := by
 subst hm
 rw [Nat.or_comm, Nat.mul_comm b]
 exact (Nat.two_pow_add_eq_or_of_lt h b).symm
theorem vbits (sum b i : Nat) (hs : sum < 128 ^ i) (hb : b < 256) (hi : i < 5) : bits .or .u64 (sum : Int) (IntKind.u64.wrap (IntKind.u64.wrap (bits .andNot .u8 (b : Int) 128) * 2 ^ (7 * i))) = ((sum + b % 128 * 128 ^ i : Nat) : Int) := by
 have ha := andn_all ⟨b, hb⟩
 simp only at ha
 rw [ha]
 have hc : b % 128 < 128 := Nat.mod_lt _ (by decide)
 obtain ⟨c, hce⟩ : ∃ c, b % 128 = c := ⟨_, rfl⟩
 rw [hce] at hc ⊢
 have w1 : IntKind.u64.wrap ((c : Nat) : Int) = (c : Int) := by rw [IntKind.wrap_u64]; omega
 rw [w1]
 have hx : i = 0 ∨ i = 1 ∨ i = 2 ∨ i = 3 ∨ i = 4 := by omega
 rcases hx with rfl | rfl | rfl | rfl | rfl
 ·have w2 : IntKind.u64.wrap ((c : Int) * 2 ^ (7 * 0)) = ((c * 1 : Nat) : Int) := by rw [IntKind.wrap_u64]; omega
  rw [w2, u64_or_nat sum (c * 1) (by omega) (by omega), low_bits 0 (by decide) (by simpa using hs)]
  omega
 ·have w2 : IntKind.u64.wrap ((c : Int) * 2 ^ (7 * 1)) = ((c * 128 : Nat) : Int) := by rw [IntKind.wrap_u64]; omega
  rw [w2, u64_or_nat sum (c * 128) (by omega) (by omega), low_bits 7 (by decide) (by omega)]
  omega
 ·have w2 : IntKind.u64.wrap ((c : Int) * 2 ^ (7 * 2)) = ((c * 16384 : Nat) : Int) := by rw [IntKind.wrap_u64]; omega
  rw [w2, u64_or_nat sum (c * 16384) (by omega) (by omega), low_bits 14 (by decide) (by omega)]
  omega
 ·have w2 : IntKind.u64.wrap ((c : Int) * 2 ^ (7 * 3)) = ((c * 2097152 : Nat) : Int) := by rw [IntKind.wrap_u64]; omega
  rw [w2, u64_or_nat sum (c * 2097152) (by omega) (by omega), low_bits 21 (by decide) (by omega)]
  omega
 ·have w2 : IntKind.u64.wrap ((c : Int) * 2 ^ (7 * 4)) = ((c * 268435456 : Nat) : Int) := by rw [IntKind.wrap_u64]; omega
  rw [w2, u64_or_nat sum (c * 268435456) (by omega) (by omega), low_bits 28 (by decide) (by omega)]
  omega
theorem vsum (sum b i : Nat) (hs : sum < 128 ^ i) : sum + b % 128 * 128 ^ i < 128 ^ (i + 1) := by
 have hc : b % 128 + 1 ≤ 128 := Nat.mod_lt _ (by decide)
 have := Nat.mul_le_mul_right (128 ^ i) hc
 rw [Nat.pow_succ, Nat.mul_comm (128 ^ i) 128]
 rw [Nat.add_mul, Nat.one_mul] at this
 omega
theorem pow5 (i : Nat) (hi : i ≤ 5) : 128 ^ i ≤ 34359738368 := by
 have := Nat.pow_le_pow_right (show 0 < 128 by decide) hi
 simpa using this
theorem vread (t : ByteArray) (w : World) (ht : t.size ≤ 1000000000) : Calls Tryz.prog 320 #[.string t] w fun e w' => e = .returned (.tuple #[.int .u32 (vrd t).1, .int .i64 (vrd t).2]) ∧ w' = w := by
 by_cases h5 : 5 < t.size
 ·have hI : (5 : Int) < (t.size : Int) := by omega
  go_enter Tryz.func320, Tryz.ntmps320
  go_wp2
  go_loop [4, 5, 6, 10] (fun sv _ _ iv => ∃ (i sum : Nat), i ≤ 5 ∧ iv = .int .i64 i ∧ sv = .int .u64 sum ∧ sum < 128 ^ i ∧ vrF t i sum (5 - i) = vrd t) (fun _ _ _ iv => 5 - (intOf iv).toNat)
  case atStart => exact ⟨0, 0, by omega, rfl, rfl, by decide, rfl⟩
  case round =>
   obtain ⟨i, sum, hi, rfl, rfl, hs, hv⟩ := hrel
   by_cases hlt : i < 5
   ·have hit : i < t.size := by omega
    have hi5 : i < 5 := by omega
    obtain ⟨b, hb⟩ : ∃ b : Nat, t[i].toNat = b := ⟨_, rfl⟩
    have hb2 : b < 256 := by rw [← hb]; exact t[i].toNat_lt
    have hbb := vbits sum b i hs hb2 hi5
    have hss := vsum sum b i hs
    have hp5 := pow5 (i + 1) (by omega)
    have hk : 5 - i = (5 - (i + 1)) + 1 := by omega
    rw [hk, vrF, dif_pos hit, hb] at hv
    obtain ⟨q, hq⟩ : ∃ q, sum + b % 128 * 128 ^ i = q := ⟨_, rfl⟩
    rw [hq] at hbb hss hv
    have HV : Hid _ := hv
    have HS : Hid _ := hss
    clear hk hv hq hss hs
    by_cases hp : 128 ≤ b
    ·have hp' : (b : Int) ≥ 128 := by omega
     go_wp2
     go_round
     case rel => exact ⟨i + 1, q, by omega, by go_num, rfl, HS.out, by have := HV.out; rw [if_pos hp] at this; exact this⟩
     case measure => simp [intOf]; omega
    ·have hp' : ¬ ((b : Int) ≥ 128) := by omega
     have hq2 := HS.out
     by_cases hc : 4294967295 < q ∨ (b = 0 ∧ 0 < i)
     ·have HR : Hid (vrd t = (0, 0)) := by have := HV.out; rw [if_neg hp, if_pos hc] at this; exact this.symm
      by_cases hc1 : 4294967295 < q
      ·have hc1' : (q : Int) > 4294967295 := by omega
       go_wp2
       go_ret2
       exact ⟨by rw [HR.out]; rfl, rfl⟩
      ·have hc1' : ¬ ((q : Int) > 4294967295) := by omega
       have hb0 : b = 0 := by omega
       have hi0 : (i : Int) > 0 := by omega
       have hb0' : ((b : Int) == 0) = true := by simp [hb0]
       clear hb0
       go_wp2
       go_ret2
       exact ⟨by rw [HR.out]; rfl, rfl⟩
     ·have HR : Hid (vrd t = (q, i + 1)) := by have := HV.out; rw [if_neg hp, if_neg hc] at this; exact this.symm
      have hc1' : ¬ ((q : Int) > 4294967295) := by omega
      have hwr : IntKind.u32.wrap (q : Int) = (q : Int) := by rw [IntKind.wrap_u32]; omega
      by_cases hb0 : b = 0
      ·have hi0 : ¬ ((i : Int) > 0) := by omega
       have hb0' : ((b : Int) == 0) = true := by simp [hb0]
       clear hb0
       go_wp2
       go_ret2
       exact ⟨by rw [HR.out]; simp, rfl⟩
      ·have hb0' : ((b : Int) == 0) = false := by simp; omega
       go_wp2
       go_ret2
       exact ⟨by rw [HR.out]; simp, rfl⟩
   ·have ei : i = 5 := by omega
    have HR : Hid (vrd t = (0, 0)) := by
     show _ = _
     rw [← hv]
     rw [ei]; rfl
    subst ei
    go_wp2
    go_ret2
    exact ⟨by rw [HR.out]; rfl, rfl⟩
 ·have hI : ¬ ((5 : Int) < (t.size : Int)) := by omega
  go_enter Tryz.func320, Tryz.ntmps320
  go_wp2
  go_loop [4, 5, 6, 10] (fun sv _ _ iv => ∃ (i sum : Nat), i ≤ t.size ∧ iv = .int .i64 i ∧ sv = .int .u64 sum ∧ sum < 128 ^ i ∧ vrF t i sum (5 - i) = vrd t) (fun _ _ _ iv => t.size - (intOf iv).toNat)
  case atStart => exact ⟨0, 0, by omega, rfl, rfl, by decide, rfl⟩
  case round =>
   obtain ⟨i, sum, hi, rfl, rfl, hs, hv⟩ := hrel
   by_cases hlt : i < t.size
   ·have hit : i < t.size := by omega
    have hi5 : i < 5 := by omega
    obtain ⟨b, hb⟩ : ∃ b : Nat, t[i].toNat = b := ⟨_, rfl⟩
    have hb2 : b < 256 := by rw [← hb]; exact t[i].toNat_lt
    have hbb := vbits sum b i hs hb2 hi5
    have hss := vsum sum b i hs
    have hp5 := pow5 (i + 1) (by omega)
    have hk : 5 - i = (5 - (i + 1)) + 1 := by omega
    rw [hk, vrF, dif_pos hit, hb] at hv
    obtain ⟨q, hq⟩ : ∃ q, sum + b % 128 * 128 ^ i = q := ⟨_, rfl⟩
    rw [hq] at hbb hss hv
    have HV : Hid _ := hv
    have HS : Hid _ := hss
    clear hk hv hq hss hs
    by_cases hp : 128 ≤ b
    ·have hp' : (b : Int) ≥ 128 := by omega
     go_wp2
     go_round
     case rel => exact ⟨i + 1, q, by omega, by go_num, rfl, HS.out, by have := HV.out; rw [if_pos hp] at this; exact this⟩
     case measure => simp [intOf]; omega
    ·have hp' : ¬ ((b : Int) ≥ 128) := by omega
     have hq2 := HS.out
     by_cases hc : 4294967295 < q ∨ (b = 0 ∧ 0 < i)
     ·have HR : Hid (vrd t = (0, 0)) := by have := HV.out; rw [if_neg hp, if_pos hc] at this; exact this.symm
      by_cases hc1 : 4294967295 < q
      ·have hc1' : (q : Int) > 4294967295 := by omega
       go_wp2
       go_ret2
       exact ⟨by rw [HR.out]; rfl, rfl⟩
      ·have hc1' : ¬ ((q : Int) > 4294967295) := by omega
       have hb0 : b = 0 := by omega
       have hi0 : (i : Int) > 0 := by omega
       have hb0' : ((b : Int) == 0) = true := by simp [hb0]
       clear hb0
       go_wp2
       go_ret2
       exact ⟨by rw [HR.out]; rfl, rfl⟩
     ·have HR : Hid (vrd t = (q, i + 1)) := by have := HV.out; rw [if_neg hp, if_neg hc] at this; exact this.symm
      have hc1' : ¬ ((q : Int) > 4294967295) := by omega
      have hwr : IntKind.u32.wrap (q : Int) = (q : Int) := by rw [IntKind.wrap_u32]; omega
      by_cases hb0 : b = 0
      ·have hi0 : ¬ ((i : Int) > 0) := by omega
       have hb0' : ((b : Int) == 0) = true := by simp [hb0]
       clear hb0
       go_wp2
       go_ret2
       exact ⟨by rw [HR.out]; simp, rfl⟩
      ·have hb0' : ((b : Int) == 0) = false := by simp; omega
       go_wp2
       go_ret2
       exact ⟨by rw [HR.out]; simp, rfl⟩
   ·have ei : i = t.size := by omega
    have HR : Hid (vrd t = (0, 0)) := by
     show _ = _
     rw [← hv]
     rw [ei]
     cases hk : 5 - t.size with
     | zero => rfl
     | succ k => rw [vrF, dif_neg (by omega)]
    subst ei
    go_wp2
    go_ret2
    exact ⟨by rw [HR.out]; rfl, rfl⟩
end Go.Proofs.YtadinjaocnlglaaGreatDoor
