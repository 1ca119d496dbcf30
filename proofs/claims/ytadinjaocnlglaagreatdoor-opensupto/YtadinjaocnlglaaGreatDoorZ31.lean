/-
  Vault.Repair where all is whole; vaultkeep's whole.
  vault.Open, and vaultkeep's opened.
  The walk of Stock.data.
  The walk of Stock.data.
  The walks of Stock.part and Unpack where all stripes are whole.
  The walks of Stock.part and Unpack where all stripes are whole.
  Unpack where all is whole; Params, Root, Objects: of a Stock, and of a Vault.
  A Vault's Unpack where all is whole; its Params, Root, Objects.
  Plain: volumes of which none is left out.
  Plain: where all blocks are good, the volumes are made as they were.
  Plain: what is whole is made as it was, and is whole again.
  One object taken out of a list of one's own.
  Plain: the digest of the empty text, word by word.
  The walks of vault.Parity where nothing is refused, of vault.Digest, and of first.
  A text taken out of a list; names that were read.
  The walks of vaultkeep's sameObjects and mixed.
  The walk of vaultkeep's packed.
  The walk of vaultkeep.Clean.
  The walk of vaultkeep's mixed.
  What a Draft refuses: checkState, overFirst, breakOff.
  A Writer as the document tells it: what was begun and written, the first error that broke it, whether Close has answered; and its answers.
  What a Draft has, told by the document's Writer; Begin, whatever it answers.
  Begin and Write of a Draft, whatever they answer.
  Write of a Draft, whatever it answers.
  Write of a Draft, told by the document's Writer.
  Close of a Draft, whatever it answers: the walks.
  The walk of vaultref's leaves.
  Close of a Draft, and the methods of vault's Writer, whatever they answer.
  The document's Writer: what it has; state, breaks, total.
  The document's Writer: its rows, read; what a call leaves of it.
  The walk of looks.
  A desk: its book, and Writers beside one another, each with what is its own.
  Write of the document's Writer, where it is refused.
  Write of the document's Writer, where the bytes are put behind the others.
  The walk of vaultref's volume.
-/
import Derived.Test.YtadinjaocnlglaaGreatDoorZ30
import Derived.Test.YtadinjaocnlglaaGreatDoorZ14
import Derived.Deep.RegionLaw
import Derived.Test.YtadinjaocnlglaaGreatDoorZ11
import Derived.KernelRfl
import Derived.Test.YtadinjaocnlglaaGreatDoorZ04
import Derived.Test.YtadinjaocnlglaaGreatDoorZ13
import Derived.Deep.CutRange
import Derived.Test.YtadinjaocnlglaaGreatDoorZ19
import Derived.Test.YtadinjaocnlglaaGreatDoorZ05
import Derived.WalkKit
import Derived.Test.YtadinjaocnlglaaGreatDoorZ20
import Derived.Test.YtadinjaocnlglaaGreatDoorZ08
namespace Go.Proofs.YtadinjaocnlglaaGreatDoor
open Go.RowKit
set_option maxRecDepth 100000
set_option maxHeartbeats 4000000
theorem SS.vs {kt : Nat → Int} {B k g p q f : Nat} {T : TT} {un : Value} {ul : List Nat} {rd : Nat → Bool} {bl : Nat → ByteArray} {w : World} (h : SS B k g p q f T un rd bl w) (hu : w.ownsRow B 3 1 un ul.length (unV ul)) : VS kt B k g p q f T un ul rd bl (fun _ => false) (fun _ => 0) (fun _ => .slice none 0 0) w where
 row := h.row
 hd := h.hd
 unO := hu
 rdR := h.rdR
 blR := by rw [blD_none]; exact h.blR
 fiR := h.fiR.to (fun j _ => by simp [piF, fiP])
 fn := fun s _ hd => by cases hd
def Opn (kt : Nat → Int) (rt : ByteArray) (L : Nat → ByteArray) (n : Nat) (s : OS) (t0 : ByteArray) : Prop := (rt.size = 0 ∨ rt.size = 32) ∧ OS.run kt rt 0 (texL L n) OS.new = .ok s ∧ s.hd = some t0
def VNew (kt : Nat → Int) (rt : ByteArray) (L : Nat → ByteArray) (n B v : Nat) (w : World) : Prop :=
 ∃ s t0 k g p q f un, Opn kt rt L n s t0 ∧ rdE kt t0 = none ∧ B ≤ v ∧ (B ≤ q ∧ B ≤ f) ∧ VL v k 0 w ∧ VS kt B k g p q f (RS.on t0).told un s.un s.rd s.bl (fun _ => false) (fun _ => 0) (fun _ => .slice none 0 0) w
def RawT (w : World) (a : Option Addr) (n cap : Nat) (L : Nat → ByteArray) : Prop := (a = none ∧ n = 0 ∧ cap = 0) ∨ ∃ ad : Addr, a = some ad ∧ ∀ i, i < n → ∃ b off, ad = ⟨b, off, none⟩ ∧ b < w.heap.size ∧ w.cell? ⟨b, off + i, none⟩ = some (.string (L i))
theorem info9p : (Tryz.prog.info? 9).map (fun i => (i.zero, i.size, i.bytes)) = some (some (.string ⟨#[]⟩), 1, 16) := by kernel_rfl
theorem own_row9 {w : World} {B n : Nat} {v : Value} {L : Nat → ByteArray} (h : w.ownsRow B 9 1 v n (tV L n)) (hn : 0 < n) : ∃ g cap, v = .slice (some ⟨g, 0, none⟩) n cap ∧ B ≤ g ∧ g < w.heap.size ∧ Cl w g n (tI L) := by
 rcases h.2 with ⟨_, h0⟩ | ⟨g, cap, cur, hv, hb, hh, _⟩
 ·omega
 ·refine ⟨g, cap, hv, hb, (Array.getElem?_eq_some_iff.1 hh).1, fun i hi => ?_⟩
  have := h.cells (g := g) (by rw [hv]; rfl) i (.string (L i)) (by simp [tV, hi])
  rw [Addr.add_lit, Nat.zero_add] at this
  exact this
set_option maxHeartbeats 8000000
end Go.Proofs.YtadinjaocnlglaaGreatDoor
namespace Go.Proofs.YtadinjaocnlglaaGreatDoor
open Go.RowKit Go.MuLone
set_option maxRecDepth 100000
set_option maxHeartbeats 4000000
theorem sroot (k g : Nat) (root : ByteArray) (w : World) (c0 : w.cell? ⟨k, 0, none⟩ = some (.pointer (some ⟨g, 0, none⟩))) (g0 : w.cell? ⟨g, 0, none⟩ = some (.string root)) : Calls Tryz.prog 71 #[.pointer (some ⟨k, 0, none⟩)] w fun e w' => e = .returned (.string root) ∧ w' = w := by
 go_enter Tryz.func71, Tryz.ntmps71
 go_wp2_with fail
 go_ret
 exact ⟨rfl, rfl⟩
theorem sobjects (k g B ne kE : Nat) (aE : Option Addr) (es : List (ByteArray × Nat)) (w : World) (c0 : w.cell? ⟨k, 0, none⟩ = some (.pointer (some ⟨g, 0, none⟩))) (g6 : w.cell? ⟨g, 6, none⟩ = some (.slice aE ne kE)) (ho : w.ownsRow B 70 2 (.slice aE ne kE) ne (enV es)) (hn : ne ≤ 1000000) : Calls Tryz.prog 72 #[.pointer (some ⟨k, 0, none⟩)] w fun e w' => ∃ v, e = .returned v ∧ w'.ownsRow w.heap.size 70 2 v ne (enV es) ∧ Below w.heap.size w w' := by
 have HC : Hid _ := clone_e B ne (.slice aE ne kE) es w ho hn
 clear ho
 go_enter Tryz.func72, Tryz.ntmps72
 go_wp2_with fail
 refine Calls.mono HC.out ?_
 rintro e w1 ⟨v, rfl, ho, hb⟩
 have HO : Hid _ := ho
 have HB : Hid _ := hb
 clear ho hb
 go_wp2_with fail
 go_ret
 exact ⟨v, rfl, HO.out, HB.out⟩
theorem sparams (k g K M C V : Nat) (w : World) (c0 : w.cell? ⟨k, 0, none⟩ = some (.pointer (some ⟨g, 0, none⟩))) (g2 : w.cell? ⟨g, 2, none⟩ = some (.int .i64 K)) (g3 : w.cell? ⟨g, 3, none⟩ = some (.int .i64 M)) (g4 : w.cell? ⟨g, 4, none⟩ = some (.int .i64 C)) (g5 : w.cell? ⟨g, 5, none⟩ = some (.int .i64 V)) :
  Calls Tryz.prog 70 #[.pointer (some ⟨k, 0, none⟩)] w fun e w' => e = .returned (.agg #[.int .i64 K, .int .i64 M, .int .i64 C, .int .i64 V]) ∧ Below w.heap.size w w' := by
 have hkl := block_lt_of_cell c0
 have hgl := block_lt_of_cell g2
 go_enter Tryz.func70, Tryz.ntmps70
 go_wp2_with fail
 refine bodyPost_ret (v := .agg #[.int .i64 K, .int .i64 M, .int .i64 C, .int .i64 V]) ?_ rfl ?_
 ·exact results_cell_row Tryz.results70 _ _ w.heap.size 23 #[.int .i64 K, .int .i64 M, .int .i64 C, .int .i64 V] (0, 0) _ rfl (heap_alloc_new _ _) Tryz.underlying23 rfl (by kernel_rfl)
 ·exact ⟨rfl, (Below.refl _ _).alloc (Nat.le_refl _) _⟩
def VK (kt : Nat → Int) (B v k g p q f : Nat) (T : TT) (un : Value) (ul : List Nat) (rd : Nat → Bool) (bl : Nat → ByteArray) (w : World) : Prop := VL v k 0 w ∧ ∃ (dn : Nat → Bool) (zs : Nat → Nat) (bd : Nat → Value), VS kt B k g p q f T un ul rd bl dn zs bd w
theorem vroot (kt : Nat → Int) (B v k g p q f : Nat) (T : TT) (un : Value) (ul : List Nat) (rd : Nat → Bool) (bl : Nat → ByteArray) (w : World) (h : VK kt B v k g p q f T un ul rd bl w) :
  Calls Tryz.prog 24 #[.pointer (some ⟨v, 0, none⟩)] w fun e w' => e = .returned (.string T.root) ∧ VK kt B v k g p q f T un ul rd bl w' ∧ Fr (fun j => j = q ∨ j = f ∨ j = v) w w' := by
 obtain ⟨hv, dn, zs, bd, h⟩ := h
 have hF0 : Fr (fun j => j = v) w (w.setCell ⟨v, 0, none⟩ (.int .i32 1)) := (Fr.refl (fun j => j = v) w).set (.inl rfl) _ _
 refine Calls.mono (lk_root v k w (fun val w' => val = .string T.root ∧ VK kt B v k g p q f T un ul rd bl w' ∧ Fr (fun j => j = q ∨ j = f ∨ j = v) w w') hv ?_) ?_
 ·have hS1 := h.set hv (.inr rfl) 0 (.int .i32 1)
  obtain ⟨aE, kE, num, first, vB, hg, hoE⟩ := hS1.hd
  refine Calls.mono (sroot k g T.root _ (cell_of_row _ _ _ _ 224 _ hS1.row) (cell_of_row _ _ _ _ 319 _ hg)) ?_
  rintro e w' ⟨rfl, rfl⟩
  refine ⟨_, rfl, VL.one hv, rfl, ⟨(VL.one hv).zero, dn, zs, bd, hS1.set (VL.one hv) (.inr rfl) _ _⟩, ?_⟩
  exact (hF0.mono (T := fun j => j = q ∨ j = f ∨ j = v) (fun j _ e => .inr (.inr e))).set (.inl (.inr (.inr rfl))) _ _
 ·rintro e w' ⟨a, rfl, hval, h1, h2⟩
  exact ⟨by rw [hval], h1, h2⟩
theorem vobjects (kt : Nat → Int) (B v k g p q f : Nat) (T : TT) (un : Value) (ul : List Nat) (rd : Nat → Bool) (bl : Nat → ByteArray) (w : World) (h : VK kt B v k g p q f T un ul rd bl w) (hle : T.L.es.length ≤ 16) :
  Calls Tryz.prog 25 #[.pointer (some ⟨v, 0, none⟩)] w fun e w' => ∃ vo, e = .returned vo ∧ VK kt B v k g p q f T un ul rd bl w' ∧ Fr (fun j => j = q ∨ j = f ∨ j = v) w w' ∧ w'.ownsRow w.heap.size 70 2 vo T.L.es.length (enV T.L.es) := by
 obtain ⟨hv, dn, zs, bd, h⟩ := h
 have hF0 : Fr (fun j => j = v) w (w.setCell ⟨v, 0, none⟩ (.int .i32 1)) := (Fr.refl (fun j => j = v) w).set (.inl rfl) _ _
 refine Calls.mono (lk_objects v k w (fun val w' => VK kt B v k g p q f T un ul rd bl w' ∧ Fr (fun j => j = q ∨ j = f ∨ j = v) w w' ∧ w'.ownsRow w.heap.size 70 2 val T.L.es.length (enV T.L.es)) hv ?_) ?_
 ·have hS1 := h.set hv (.inr rfl) 0 (.int .i32 1)
  obtain ⟨aE, kE, num, first, vB, hg, hoE⟩ := hS1.hd
  refine Calls.mono (sobjects k g B T.L.es.length kE aE T.L.es _ (cell_of_row _ _ _ _ 224 _ hS1.row) (cell_of_row _ _ _ _ 319 _ hg) hoE (by omega)) ?_
  rintro e w' ⟨vo, rfl, ho, hb⟩
  have hv1 : VL v k 1 w' := (hb.block v (Array.getElem?_eq_some_iff.1 (VL.one hv)).1).trans (VL.one hv)
  have e1 : (w.setCell ⟨v, 0, none⟩ (.int .i32 1)).heap.size = w.heap.size := by simp [World.setCell]
  rw [e1] at ho
  refine ⟨_, rfl, hv1, ⟨hv1.zero, dn, zs, bd, (hS1.below hb).set hv1 (.inr rfl) _ _⟩, ?_, own_setB ho hv1 (by decide) _⟩
  exact ((hF0.mono (T := fun j => j = q ∨ j = f ∨ j = v) (fun j _ e => .inr (.inr e))).thenBelow hb).set (.inl (.inr (.inr rfl))) _ _
 ·rintro e w' ⟨a, rfl, h1, h2, h3⟩
  exact ⟨a, rfl, h1, h2, h3⟩
def nil4 : Array Value := #[.int .i64 0, .int .i64 0, .int .i64 0, .int .i64 0]
theorem vparams (kt : Nat → Int) (B v k g p q f : Nat) (T : TT) (un : Value) (ul : List Nat) (rd : Nat → Bool) (bl : Nat → ByteArray) (w : World) (h : VK kt B v k g p q f T un ul rd bl w) :
  Calls Tryz.prog 23 #[.pointer (some ⟨v, 0, none⟩)] w fun e w' => e = .returned (.agg #[.int .i64 T.L.K, .int .i64 T.L.M, .int .i64 T.L.C, .int .i64 T.L.V]) ∧ VK kt B v k g p q f T un ul rd bl w' ∧ Fr (fun j => j = q ∨ j = f ∨ j = v) w w' := by
 obtain ⟨hv, dn, zs, bd, h⟩ := h
 have hvl : v < w.heap.size := (Array.getElem?_eq_some_iff.1 hv).1
 obtain ⟨W, hW⟩ : ∃ W, w.alloc (.cells nil4 23) = W := ⟨_, rfl⟩
 have hbW : Below w.heap.size w W := by rw [← hW]; exact (Below.refl _ _).alloc (Nat.le_refl _) _
 have hWn : W.heap[w.heap.size]? = some (.cells nil4 23 (0, 0)) := by rw [← hW]; exact heap_alloc_new _ _
 have hvW : VL v k 0 W := (hbW.block v hvl).trans hv
 have h0 : W.cell? ⟨v, 0, none⟩ = some (.int .i32 0) := cell_of_row _ _ _ _ 159 _ hvW
 have f0 : W.frozen? ⟨v, 0, none⟩ = false := frozen_of_row _ _ _ _ 159 hvW
 have HL : Hid _ := lock_free muL ⟨v, 0, none⟩ W h0 f0
 obtain ⟨Y, hY⟩ : ∃ Y, W.setCell ⟨v, 0, none⟩ (.int .i32 1) = Y := ⟨_, rfl⟩
 have hvY : VL v k 1 Y := by rw [← hY]; exact hvW.one
 have hVY : VS kt B k g p q f T un ul rd bl dn zs bd Y := by rw [← hY]; exact (h.below hbW).set hvW (.inr rfl) _ _
 have hYn : Y.heap[w.heap.size]? = some (.cells nil4 23 (0, 0)) := by rw [← hY, set_other _ _ _ _ _ (by omega)]; exact hWn
 have hFY : Fr (fun j => j = q ∨ j = f ∨ j = v) w Y := by rw [← hY]; exact (Fr.below hbW).set (.inl (.inr (.inr rfl))) _ _
 obtain ⟨aE, kE, num, first, vB, hg, hoE⟩ := hVY.hd
 have HSP : Hid _ := sparams k g T.L.K T.L.M T.L.C T.L.V Y (cell_of_row _ _ _ _ 224 _ hVY.row) (cell_of_row _ _ _ _ 319 _ hg) (cell_of_row _ _ _ _ 319 _ hg) (cell_of_row _ _ _ _ 319 _ hg) (cell_of_row _ _ _ _ 319 _ hg)
 have c2 : Y.cell? ⟨v, 2, none⟩ = some (.pointer (some ⟨k, 0, none⟩)) := cell_of_row _ _ _ _ 159 _ hvY
 rw [hY] at HL
 have HVY : Hid (VL v k 1 Y) := hvY
 have HSY : Hid _ := hVY
 have HYN : Hid _ := hYn
 have HFY : Hid _ := hFY
 have hW' : w.alloc (.cells #[.int .i64 0, .int .i64 0, .int .i64 0, .int .i64 0] 23) = W := hW
 clear hv h hbW hWn hvW h0 f0 hY hvY hVY hYn hFY hW hg hoE
 go_enter_defers Tryz.func23, Tryz.ntmps23
 go_wp2_with fail
 refine Calls.mono HL.out ?_
 rintro e w1 ⟨rfl, rfl⟩
 go_wp2_with fail
 refine Calls.mono HSP.out ?_
 rintro e w2 ⟨rfl, hb2⟩
 have hr2 := (hb2.block _ (Array.getElem?_eq_some_iff.1 HYN.out).1).trans HYN.out
 have hv2 : VL v k 1 w2 := (hb2.block v (Array.getElem?_eq_some_iff.1 HVY.out).1).trans HVY.out
 have HS2 : Hid _ := HSY.out.below hb2
 have HF2 : Hid _ := HFY.out.thenBelow hb2
 obtain ⟨r, hr⟩ : ∃ r, w.heap.size = r := ⟨_, rfl⟩
 rw [hr] at hr2
 have p0 : w2.cell? ⟨r, 0, none⟩ = some (.int .i64 0) := cell_of_row _ _ _ _ 23 _ hr2
 have p1 : w2.cell? ⟨r, 1, none⟩ = some (.int .i64 0) := cell_of_row _ _ _ _ 23 _ hr2
 have p2 : w2.cell? ⟨r, 2, none⟩ = some (.int .i64 0) := cell_of_row _ _ _ _ 23 _ hr2
 have p3 : w2.cell? ⟨r, 3, none⟩ = some (.int .i64 0) := cell_of_row _ _ _ _ 23 _ hr2
 have fz : ∀ j, w2.frozen? ⟨r, j, none⟩ = false := fun j => frozen_of_row _ _ _ _ 23 hr2
 have HR2 : Hid _ := hr2
 have HV2 : Hid (VL v k 1 w2) := hv2
 have HRR : Hid (w.heap.size = r) := hr
 have hrr : w.heap.size ≤ r := Nat.le_of_eq hr
 have hvr : v < r := by omega
 clear hr2 hv2 hb2 hr
 rw [HRR.out]
 go_wp2_with fail
 have hR := set_heap _ _ 3 (.int .i64 (T.L.V : Nat)) _ _ _ (set_heap _ _ 2 (.int .i64 (T.L.C : Nat)) _ _ _ (set_heap _ _ 1 (.int .i64 (T.L.M : Nat)) _ _ _ (set_heap _ _ 0 (.int .i64 (T.L.K : Nat)) _ _ _ HR2.out)))
 have hk : ∀ (j : Nat) (c : Array Value) (t : TypeId), t ≠ 23 → w2.heap[j]? = some (.cells c t (0, 0)) → ((((w2.setCell ⟨r, 0, none⟩ (.int .i64 (T.L.K : Nat))).setCell ⟨r, 1, none⟩ (.int .i64 (T.L.M : Nat))).setCell ⟨r, 2, none⟩ (.int .i64 (T.L.C : Nat))).setCell ⟨r, 3, none⟩ (.int .i64 (T.L.V : Nat))).heap[j]? = some (.cells c t (0, 0)) := fun j c t ht hj => by
  have hne := row_ne hj HR2.out ht
  rw [set_other _ _ _ _ _ hne, set_other _ _ _ _ _ hne, set_other _ _ _ _ _ hne, set_other _ _ _ _ _ hne]
  exact hj
 have hFZ := (((HF2.out.set (g := r) (.inr hrr) 0 (.int .i64 (T.L.K : Nat))).set (g := r) (.inr hrr) 1 (.int .i64 (T.L.M : Nat))).set (g := r) (.inr hrr) 2 (.int .i64 (T.L.C : Nat))).set (g := r) (.inr hrr) 3 (.int .i64 (T.L.V : Nat))
 have hvZ : VL v k 1 _ := hk _ _ _ (by decide) HV2.out
 have hSZ := HS2.out.kept (w' := (((w2.setCell ⟨r, 0, none⟩ (.int .i64 (T.L.K : Nat))).setCell ⟨r, 1, none⟩ (.int .i64 (T.L.M : Nat))).setCell ⟨r, 2, none⟩ (.int .i64 (T.L.C : Nat))).setCell ⟨r, 3, none⟩ (.int .i64 (T.L.V : Nat))) (fun j cs t ht hj => hk j cs t (by rcases ht with e | e | e | e | e | e | e <;> simp [e]) hj) (fun j hj => by
  have h3 : ∃ cur, w2.heap[j]? = some (.cells cur 3 (0, 0)) := by
   rcases hj with e | ⟨s, hs, hd, e⟩
   ·exact own_type HS2.out.unO j e
   ·exact own_type (HS2.out.fn s hs hd).2 j e
  obtain ⟨cur, hcur⟩ := h3
  rw [hk _ _ _ (by decide) hcur, hcur])
 generalize (((w2.setCell ⟨r, 0, none⟩ (.int .i64 (T.L.K : Nat))).setCell ⟨r, 1, none⟩ (.int .i64 (T.L.M : Nat))).setCell ⟨r, 2, none⟩ (.int .i64 (T.L.C : Nat))).setCell ⟨r, 3, none⟩ (.int .i64 (T.L.V : Nat)) = Z at *
 refine leaves_cons (f := 69) (args := #[.pointer (some ⟨v, 0, none⟩)]) (by simp) (by simp [go_sem]) ?_
 refine (unlock_deferred muL ⟨v, 0, none⟩ .returning Z (cell_of_row _ _ _ _ 159 _ hvZ) (frozen_of_row _ _ _ _ 159 hvZ)).mono ?_
 rintro e u' w3 ⟨rfl, rfl, rfl⟩
 have hrow : (Z.setCell ⟨v, 0, none⟩ (.int .i32 0)).heap[r]? = _ := (set_other Z v 0 r _ (by omega)).trans hR
 exact ⟨_, results_cell_row Tryz.results23 _ _ r 23 _ (0, 0) _ rfl hrow Tryz.underlying23 rfl (by kernel_rfl), rfl, ⟨hvZ.zero, dn, zs, bd, hSZ.set hvZ (.inr rfl) _ _⟩, hFZ.set (.inl (.inr (.inr rfl))) _ _⟩
end Go.Proofs.YtadinjaocnlglaaGreatDoor
namespace Go.Proofs.YtadinjaocnlglaaGreatDoor
open Go.RowKit
set_option maxRecDepth 100000
set_option maxHeartbeats 1000000
def tT (t : ByteArray) : TT := (RS.on t).told
def nB (t : ByteArray) : Nat := (tRest t).size / (tT t).L.C
def Same3 (a b : ByteArray) : Prop := (tT a).root = (tT b).root ∧ (tT a).lst = (tT b).lst ∧ (tT a).lv = (tT b).lv
theorem jL_pc (t : ByteArray) (c : Nat) : ∀ k, jL (pc t c) k = t.data.toList.take (k * c)
 | 0 => by simp [jL]
 | k + 1 => by
  have e : jL (pc t c) (k + 1) = jL (pc t c) k ++ (pc t c k).data.toList := by simp [jL, List.range_succ]
  rw [e, jL_pc t c k]
  unfold pc
  rw [ext_list, Nat.succ_mul, Nat.add_sub_cancel_left, List.take_add]
theorem jT_pc (t : ByteArray) (c k : Nat) (h : t.size = k * c) : jT (pc t c) k = t := by
 apply ba_ext
 show jL (pc t c) k = _
 rw [jL_pc, List.take_of_length_le]
 rw [dl]; omega
theorem jT_congr {F G : Nat → ByteArray} {n : Nat} (h : ∀ i, i < n → F i = G i) : jT F n = jT G n := by
 apply ba_ext
 show jL F n = jL G n
 unfold jL
 congr 1
 apply List.map_congr_left
 intro i hi
 rw [h i (List.mem_range.1 hi)]
theorem rng_mono {cnt V u v : Nat} (h : u < v) : (u + 1) * cnt / V ≤ v * cnt / V := Nat.div_le_div_right (Nat.mul_le_mul_right _ h)
theorem rng_fit {kt : Nat → Int} {t : ByteArray} (h : rdE kt t = none) : (tT t).num < (tT t).L.V ∧ nB t ≤ ((tT t).num + 1) * (tT t).L.cnt / (tT t).L.V - (tT t).first ∧ (tRest t).size ≤ (((tT t).num + 1) * (tT t).L.cnt / (tT t).L.V - (tT t).first) * (tT t).L.C := by
 obtain ⟨_, h1, h2⟩ := rd_none h
 have hT : Told1 (tT t) := ck_ok h1
 have h3 : (tRest t).size ≤ (((tT t).num + 1) * (tT t).L.cnt / (tT t).L.V - (tT t).first) * (tT t).L.C := h2
 refine ⟨hT.num, ?_, h3⟩
 unfold nB
 exact Nat.le_trans (Nat.div_le_div_right h3) (by rw [Nat.mul_div_cancel _ hT.c1]; exact Nat.le_refl _)
def KT : List Int := [1116352408, 1899447441, 3049323471, 3921009573, 961987163, 1508970993, 2453635748, 2870763221, 3624381080, 310598401, 607225278, 1426881987, 1925078388, 2162078206, 2614888103, 3248222580, 3835390401, 4022224774, 264347078, 604807628, 770255983, 1249150122, 1555081692, 1996064986, 2554220882, 2821834349, 2952996808, 3210313671, 3336571891, 3584528711, 113926993, 338241895, 666307205, 773529912, 1294757372, 1396182291, 1695183700, 1986661051, 2177026350, 2456956037, 2730485921, 2820302411, 3259730800, 3345764771, 3516065817, 3600352804, 4094571909, 275423344, 430227734, 506948616, 659060556, 883997877, 958139571, 1322822218, 1537002063, 1747873779, 1955562222, 2024104815, 2227730452, 2361852424, 2428436474, 2756734187, 3204031479, 3329325298]
def kt (j : Nat) : Int := KT.getD j 0
theorem ents_nm : ∀ (k : Nat) (s : RS) (nm : ByteArray) (left : Int) (acc : List (ByteArray × Nat)), (∀ x ∈ acc, x.1.size ≤ 255) → ∀ x ∈ (RS.ents k s nm left acc).2, x.1.size ≤ 255
 | 0, _, _, _, _, h => h
 | k + 1, s, nm, left, acc, h => by
  rw [RS.ents]
  refine ents_nm k _ _ _ _ (fun x hx => ?_)
  rcases List.mem_append.1 hx with hx | hx
  ·exact h x hx
  ·rw [List.mem_singleton] at hx
   subst hx
   show ((s.num 1 255).1.bytes (s.num 1 255).2).2.size ≤ 255
   have h1 : (s.num 1 255).2 ≤ 255 := num_hi s 1 255
   have h2 : ((s.num 1 255).1.bytes (s.num 1 255).2).2.size ≤ (s.num 1 255).2 := by
    unfold RS.bytes
    split
    ·exact Nat.zero_le _
    ·split
     ·exact Nat.zero_le _
     ·show (ByteArray.extract _ _ _).size ≤ _
      rw [ByteArray.size_extract]; omega
   omega
theorem told_nm (s : RS) : ∀ x ∈ s.told.L.es, x.1.size ≤ 255 := by
 have hl : ∀ r : RS, ∀ x ∈ r.list.es, x.1.size ≤ 255 := fun r => ents_nm _ _ _ _ _ (fun x hx => by cases hx)
 unfold RS.told
 simp only []
 split
 ·exact hl _
 ·exact hl _
set_option maxHeartbeats 4000000
theorem RawT.below {w w' : World} {a : Option Addr} {n cap : Nat} {L : Nat → ByteArray} (h : RawT w a n cap L) (hb : Below w.heap.size w w') : RawT w' a n cap L := by
 rcases h with h | ⟨ad, rfl, hc⟩
 ·exact .inl h
 ·exact .inr ⟨ad, rfl, fun i hi => by
   obtain ⟨b, off, e, h1, h2⟩ := hc i hi
   exact ⟨b, off, e, Nat.lt_of_lt_of_le h1 hb.size, (hb.cell (p := ⟨b, off + i, none⟩) h1).trans h2⟩⟩
theorem own_text (w : World) (x : ByteArray) : (w.alloc (.cells #[.string x] 9)).ownsRow w.heap.size 9 1 (.slice (some ⟨w.heap.size, 0, none⟩) 1 1) 1 [.string x] :=
 ⟨rfl, .inr ⟨w.heap.size, 1, #[.string x], rfl, Nat.le_refl _, heap_alloc_new _ _, Nat.le_refl _, by unfold maxLen; omega, rfl, rfl⟩⟩
theorem own_more {w : World} {B n : Nat} {v : Value} {H : Nat → ByteArray} (h : w.ownsRow B 9 1 v n (tV H n)) (hB : B ≤ w.heap.size) (hn : n ≤ 1000000) (x : ByteArray) : ∃ v' w', (Builtin.append_ #[42, 42] 42 #[v, .slice (some ⟨w.heap.size, 0, none⟩) 1 1]).run Tryz.prog (w.alloc (.cells #[.string x] 9)) = .ok v' w' ∧ w'.ownsRow B 9 1 v' (n + 1) (tV (fun i => if i = n then x else H i) (n + 1)) ∧ (w.alloc (.cells #[.string x] 9)).grownBy w' v.ownBlock ∧ (v'.ownBlock = v.ownBlock ∨ v'.ownBlock = some (w.heap.size + 1)) := by
 obtain ⟨i0, hi0, z0, z1, z2⟩ := info_parts info9p
 obtain ⟨v', w', hr, ho, hg, hb⟩ := app_rows 42 Tryz.underlying42 hi0 z0 z1 z2 rfl (by decide) (h.alloc (.cells #[.string x] 9)) (own_text w x) (by intro u hu; simp at hu; subst hu; rfl) (by omega) (by omega) (by simp; omega)
 refine ⟨v', w', hr, ?_, hg, by simpa using hb⟩
 have e : tV (fun i => if i = n then x else H i) (n + 1) = tV H n ++ [.string x] := by
  unfold tV
  rw [List.range_succ, List.map_append]
  congr 1
  ·apply List.map_congr_left
   intro i hi
   show Value.string (if i = n then x else H i) = Value.string (H i)
   rw [if_neg (by have := List.mem_range.1 hi; omega)]
  ·simp
 rw [e]
 exact ho
def txV (L : Nat → ByteArray) (n : Nat) : List Value := (List.range n).map fun i => .string (L i)
theorem own0 {w : World} {e : TypeId} {size B : Nat} : w.ownsRow B e size (.slice none 0 0) 0 [] := ⟨by simp, .inl ⟨rfl, rfl⟩⟩
end Go.Proofs.YtadinjaocnlglaaGreatDoor
