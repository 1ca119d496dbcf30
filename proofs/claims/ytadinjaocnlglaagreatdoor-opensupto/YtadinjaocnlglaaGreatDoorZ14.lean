/-
  The walk of layout.Volumes.
  The walk of layout.Volumes, where there is no block.
  The walk of draft's sorted.
  What Close gives, told plainly; the walk of layout.Volumes over a list of blocks of one's own.
  The walk of draft's Close (nothing refused).
  Where this program holds the lock's functions and types.
  The lock around a Writer's and a Vault's methods: what the method within answers.
  The walks of vault's NewWriter and the Writer's methods (nothing refused).
  Rows of objects (a name, data) that are owned; the walk of vaultkeep's some.
  The order of texts; a list that is sorted by name, and one more object put in its place.
  The walk of vaultkeep's objects.
  What a Writer has after so many objects, and one object more.
  The walk of layout.readTold.
-/
import Derived.Test.YtadinjaocnlglaaGreatDoorZ13
import Derived.Test.YtadinjaocnlglaaGreatDoorZ08
import Derived.Defers
import Derived.Test.YtadinjaocnlglaaGreatDoorProg
import Derived.Conc.MuLone
import Derived.KernelRfl
import Derived.Test.YtadinjaocnlglaaGreatDoorZ05
import Derived.Deep.RegionLaw
import Derived.Deep.CutRange
import Derived.Maps.AppendAt
import Derived.Test.YtadinjaocnlglaaGreatDoorZ09
namespace Go.Proofs.YtadinjaocnlglaaGreatDoor
open Go.RowKit
set_option maxRecDepth 100000
set_option maxHeartbeats 2000000
theorem lstT_size (K M C V n : Nat) (Nm : Nat → ByteArray) (Ln : Nat → Nat) (hN : ∀ j, (Nm j).size ≤ 1000) (hn : n ≤ 1000) : (lstT K M C V n Nm Ln).size ≤ 2000000 := by
 have h1 := lst2_len (lst1 (num5 K M C V n) 5) Nm Ln hN n
 have h2 := lst1_len (num5 K M C V n) 5
 show (lst2 (lst1 (num5 K M C V n) 5) Nm Ln n).toArray.size ≤ 2000000
 simp only [List.size_toArray]
 omega
end Go.Proofs.YtadinjaocnlglaaGreatDoor
namespace Go.Proofs.YtadinjaocnlglaaGreatDoor
open Go.RowKit Go.Maps
set_option maxRecDepth 100000
set_option maxHeartbeats 1000000
theorem pc_le (s : ByteArray) (z i : Nat) : (pc s z i).size ≤ z := by
 unfold pc
 rw [ByteArray.size_extract, Nat.succ_mul]
 omega
end Go.Proofs.YtadinjaocnlglaaGreatDoor
namespace Go.Proofs.YtadinjaocnlglaaGreatDoor
abbrev muN : Go.Conc.Locks.MuLink := { lock := 68, unlock := 69, ilock := 118, iunlock := 119, lockSlow := 173, unlockSlow := 176, disable := 169, enable := 171, acquire := 172, relMerge := 174, cas32 := 170, add32 := 175, tMutex := 156, tIMutex := 154, tPMutex := 218, tPIMutex := 277, tPI32 := 279, tUP := 281, tNoCopy := 151, tU32 := 152 }
theorem muL : Go.Conc.Locks.MuLib Tryz.prog muN :=
  ⟨Tryz.func68, Tryz.func69, Tryz.func118, Tryz.func119, Tryz.func169, Tryz.func171, Tryz.func172, Tryz.func174, Tryz.func170, Tryz.func175,
   Tryz.underlying154, Tryz.runUnderlying154, Tryz.sizeOf154, Tryz.isAgg154, Tryz.zeroValue154,
   Tryz.underlying156, Tryz.runUnderlying156, Tryz.sizeOf156, Tryz.isAgg156, Tryz.zeroValue156,
   Tryz.underlying218, Tryz.runUnderlying218, Tryz.sizeOf218, Tryz.isAgg218, Tryz.zeroValue218,
   Tryz.underlying277, Tryz.runUnderlying277, Tryz.sizeOf277, Tryz.isAgg277, Tryz.zeroValue277,
   Tryz.underlying279, Tryz.runUnderlying279, Tryz.sizeOf279, Tryz.isAgg279, Tryz.zeroValue279,
   Tryz.underlying281, Tryz.runUnderlying281, Tryz.sizeOf281, Tryz.isAgg281, Tryz.zeroValue281,
   Tryz.underlying151, Tryz.runUnderlying151, Tryz.sizeOf151, Tryz.isAgg151, Tryz.zeroValue151,
   Tryz.underlying21, Tryz.runUnderlying21, Tryz.sizeOf21, Tryz.isAgg21, Tryz.zeroValue21, (by kernel_rfl)⟩
end Go.Proofs.YtadinjaocnlglaaGreatDoor
namespace Go.Proofs.YtadinjaocnlglaaGreatDoor
open Go.RowKit Go.MuLone
set_option maxRecDepth 100000
set_option maxHeartbeats 1000000
def wC (x : Int) (g : Nat) : Array Value := #[.int .i32 x, .int .u32 0, .pointer (some ⟨g, 0, none⟩)]
def Lk (T wb g : Nat) (Q : Value → World → Prop) (v : Value) (w' : World) : Prop := w'.heap[wb]? = some (.cells (wC 1 g) T (0, 0)) ∧ Q v (w'.setCell ⟨wb, 0, none⟩ (.int .i32 0))
theorem lk_root (wb g : Nat) (w : World) (Q : Value → World → Prop) (hwb : w.heap[wb]? = some (.cells (wC 0 g) 159 (0, 0)))
  (H : Calls Tryz.prog 71 #[.pointer (some ⟨g, 0, none⟩)] (w.setCell ⟨wb, 0, none⟩ (.int .i32 1)) fun e w' => ∃ v, e = .returned v ∧ Lk 159 wb g Q v w') :
  Calls Tryz.prog 24 #[.pointer (some ⟨wb, 0, none⟩)] w fun e w' => ∃ v, e = .returned v ∧ Q v w' := by
 have h0 : w.cell? ⟨wb, 0, none⟩ = some (.int .i32 0) := cell_of_row _ _ _ _ 159 _ hwb
 have f0 : w.frozen? ⟨wb, 0, none⟩ = false := frozen_of_row _ _ _ _ 159 hwb
 have HL : Hid _ := lock_free muL ⟨wb, 0, none⟩ w h0 f0
 obtain ⟨W, hW⟩ : ∃ W, w.setCell ⟨wb, 0, none⟩ (.int .i32 1) = W := ⟨_, rfl⟩
 have hwW : W.heap[wb]? = some (.cells (wC 1 g) 159 (0, 0)) := by rw [← hW]; have := set_heap w wb 0 (.int .i32 1) _ _ _ hwb; simpa [wC] using this
 have c2 : W.cell? ⟨wb, 2, none⟩ = some (.pointer (some ⟨g, 0, none⟩)) := cell_of_row _ _ _ _ 159 _ hwW
 rw [hW] at HL H
 have HD : Hid _ := H
 clear hW H hwW
 go_enter_defers Tryz.func24, Tryz.ntmps24
 go_wp2_with fail
 refine Calls.mono HL.out ?_
 rintro e w1 ⟨rfl, rfl⟩
 go_wp2_with fail
 refine Calls.mono HD.out ?_
 rintro e w2 ⟨v, rfl, hw2, hQ⟩
 go_wp2
 refine leaves_cons (f := 69) (args := #[.pointer (some ⟨wb, 0, none⟩)]) (by simp) (by simp [go_sem]) ?_
 refine (unlock_deferred muL ⟨wb, 0, none⟩ .returning w2 (cell_of_row _ _ _ _ 159 _ hw2) (frozen_of_row _ _ _ _ 159 hw2)).mono ?_
 rintro e u' w3 ⟨rfl, rfl, rfl⟩
 exact ⟨_, results_tmp rfl _ _ _, v, rfl, hQ⟩
theorem lk_objects (wb g : Nat) (w : World) (Q : Value → World → Prop) (hwb : w.heap[wb]? = some (.cells (wC 0 g) 159 (0, 0)))
  (H : Calls Tryz.prog 72 #[.pointer (some ⟨g, 0, none⟩)] (w.setCell ⟨wb, 0, none⟩ (.int .i32 1)) fun e w' => ∃ v, e = .returned v ∧ Lk 159 wb g Q v w') :
  Calls Tryz.prog 25 #[.pointer (some ⟨wb, 0, none⟩)] w fun e w' => ∃ v, e = .returned v ∧ Q v w' := by
 have h0 : w.cell? ⟨wb, 0, none⟩ = some (.int .i32 0) := cell_of_row _ _ _ _ 159 _ hwb
 have f0 : w.frozen? ⟨wb, 0, none⟩ = false := frozen_of_row _ _ _ _ 159 hwb
 have HL : Hid _ := lock_free muL ⟨wb, 0, none⟩ w h0 f0
 obtain ⟨W, hW⟩ : ∃ W, w.setCell ⟨wb, 0, none⟩ (.int .i32 1) = W := ⟨_, rfl⟩
 have hwW : W.heap[wb]? = some (.cells (wC 1 g) 159 (0, 0)) := by rw [← hW]; have := set_heap w wb 0 (.int .i32 1) _ _ _ hwb; simpa [wC] using this
 have c2 : W.cell? ⟨wb, 2, none⟩ = some (.pointer (some ⟨g, 0, none⟩)) := cell_of_row _ _ _ _ 159 _ hwW
 rw [hW] at HL H
 have HD : Hid _ := H
 clear hW H hwW
 go_enter_defers Tryz.func25, Tryz.ntmps25
 go_wp2_with fail
 refine Calls.mono HL.out ?_
 rintro e w1 ⟨rfl, rfl⟩
 go_wp2_with fail
 refine Calls.mono HD.out ?_
 rintro e w2 ⟨v, rfl, hw2, hQ⟩
 go_wp2
 refine leaves_cons (f := 69) (args := #[.pointer (some ⟨wb, 0, none⟩)]) (by simp) (by simp [go_sem]) ?_
 refine (unlock_deferred muL ⟨wb, 0, none⟩ .returning w2 (cell_of_row _ _ _ _ 159 _ hw2) (frozen_of_row _ _ _ _ 159 hw2)).mono ?_
 rintro e u' w3 ⟨rfl, rfl, rfl⟩
 exact ⟨_, results_tmp rfl _ _ _, v, rfl, hQ⟩
end Go.Proofs.YtadinjaocnlglaaGreatDoor
namespace Go.Proofs.YtadinjaocnlglaaGreatDoor
open Go.RowKit Go.Maps
set_option maxRecDepth 100000
set_option maxHeartbeats 1000000
theorem by_inj {a b : ByteArray} (h : a.data.toList = b.data.toList) : a = b := ByteArray.ext (Array.toList_inj.1 h)
theorem own_base {w : World} {B B' n : Nat} {e : TypeId} {size : Nat} {v : Value} {xs : List Value} (h : w.ownsRow B e size v n xs) (hb : B' ≤ B) : w.ownsRow B' e size v n xs := by
 refine ⟨h.1, ?_⟩
 rcases h.2 with h2 | ⟨g, cap, cur, h1, h2, h3⟩
 ·exact .inl h2
 ·exact .inr ⟨g, cap, cur, h1, by omega, h3⟩
end Go.Proofs.YtadinjaocnlglaaGreatDoor
namespace Go.Proofs.YtadinjaocnlglaaGreatDoor
open Go.RowKit
set_option maxRecDepth 100000
set_option maxHeartbeats 4000000
def volC (root lst : ByteArray) (K M C V : Nat) (vE : Value) (lv : ByteArray) (num first : Nat) (vB : Value) : Array Value :=
 #[.string root, .string lst, .int .i64 K, .int .i64 M, .int .i64 C, .int .i64 V, vE, .string lv, .int .i64 num, .int .i64 first, vB]
theorem list_V (s : RS) : s.list.V ≤ 16 := num_hi _ 1 16
theorem rtold (r : Nat) (s : RS) (w : World) (h : RI r s w) : Calls Tryz.prog 246 #[.pointer (some ⟨r, 0, none⟩)] w fun e w' => ∃ g vE, e = .returned (.pointer (some ⟨g, 0, none⟩)) ∧ w.heap.size ≤ g ∧ w'.heap[g]? = some (.cells (volC s.told.root s.told.lst s.told.L.K s.told.L.M s.told.L.C s.told.L.V vE s.told.lv s.told.num 0 (.slice none 0 0)) 319 (0, 0)) ∧ w'.ownsRow w.heap.size 70 2 vE s.told.L.es.length (enV s.told.L.es) ∧ RDid r s.told.st w w' := by
 have hrl : r < w.heap.size := (Array.getElem?_eq_some_iff.1 h.row).1
 obtain ⟨s0, hs0⟩ : ∃ x, s.word ⟨#[86, 79, 76, 49]⟩ = x := ⟨_, rfl⟩
 obtain ⟨s1, hs1⟩ : ∃ x, (s0.bytes 32).1 = x := ⟨_, rfl⟩
 obtain ⟨root, hroot⟩ : ∃ x, (s0.bytes 32).2 = x := ⟨_, rfl⟩
 obtain ⟨L, hL⟩ : ∃ x, s1.list = x := ⟨_, rfl⟩
 obtain ⟨s2, hs2⟩ : ∃ x, (L.st.num 0 ((L.V : Int) - 1)).1 = x := ⟨_, rfl⟩
 obtain ⟨num, hnum⟩ : ∃ x, (L.st.num 0 ((L.V : Int) - 1)).2 = x := ⟨_, rfl⟩
 have hLl : L.es.length ≤ 16 := by rw [← hL]; exact list_len s1
 have hLs : lenE L.es ≤ 4096 := by rw [← hL]; exact list_sum s1
 obtain ⟨lst, hlst⟩ : ∃ x, L.st.text.extract s1.next L.st.next = x := ⟨_, rfl⟩
 have H0 : Hid (∀ X : World, RI r s X → Calls Tryz.prog 287 #[.pointer (some ⟨r, 0, none⟩), .string ⟨#[86, 79, 76, 49]⟩] X fun e w' => e = .returned (.tuple #[]) ∧ RDid r s0 X w') := fun X hX => by rw [← hs0]; exact rword r s _ X hX (by decide)
 have H1 : Hid (∀ X : World, RI r s0 X → Calls Tryz.prog 249 #[.pointer (some ⟨r, 0, none⟩), .int .i64 32] X fun e w' => e = .returned (.string root) ∧ RDid r s1 X w') := fun X hX => by rw [← hs1, ← hroot]; exact rbytes r s0 32 X hX (by decide)
 have H2 : Hid (∀ X : World, RI r s1 X → Calls Tryz.prog 288 #[.pointer (some ⟨r, 0, none⟩)] X fun e w' => ∃ v, e = .returned (.tuple #[.agg #[.int .i64 L.K, .int .i64 L.M, .int .i64 L.C, .int .i64 L.V], v]) ∧ w'.ownsRow X.heap.size 70 2 v L.es.length (enV L.es) ∧ RDid r L.st X w') := fun X hX => by rw [← hL]; exact rlistR r s1 X hX
 have H3 : Hid (∀ X : World, RI r L.st X → Calls Tryz.prog 289 #[.pointer (some ⟨r, 0, none⟩), .int .i64 0, .int .i64 ((L.V : Int) - 1)] X fun e w' => e = .returned (.int .i64 num) ∧ RDid r s2 X w') := fun X hX => by rw [← hs2, ← hnum]; exact rnum r L.st 0 _ X hX
 have HV : Hid (L.V ≤ 16) := by show L.V ≤ 16; rw [← hL]; exact list_V s1
 have hadv : s1.next ≤ L.st.next := by rw [← hL]; exact (list_adv s1).2
 have H4 : Hid (∀ X : World, RI r L.st X → Calls Tryz.prog 247 #[.pointer (some ⟨r, 0, none⟩), .int .i64 s1.next] X fun e w' => e = .returned (.string lst) ∧ Below X.heap.size X w') := fun X hX => by rw [← hlst]; exact rsince r L.st s1.next X hX hadv
 have hLok : s2.wrong = false → 1 ≤ L.K ∧ L.K + L.M ≤ 255 ∧ 1 ≤ L.C ∧ L.C ≤ 64 := fun hw => by
  have h1 := (num_ok (show (L.st.num 0 ((L.V : Int) - 1)).1.wrong = false by rw [hs2]; exact hw)).1
  rw [← hL] at h1 ⊢
  have h2 := list_ok h1
  exact ⟨h2.2.1, h2.2.2.1, h2.2.2.2.1, h2.2.2.2.2.1⟩
 obtain ⟨g, hg⟩ : ∃ g, w.heap.size = g := ⟨_, rfl⟩
 have HG : Hid _ := hg
 obtain ⟨W, hW⟩ : ∃ W, w.alloc (.cells (volC ⟨#[]⟩ ⟨#[]⟩ 0 0 0 0 (.slice none 0 0) ⟨#[]⟩ 0 0 (.slice none 0 0)) 319) = W := ⟨_, rfl⟩
 have hW' : w.alloc (.cells #[.string ⟨#[]⟩, .string ⟨#[]⟩, .int .i64 0, .int .i64 0, .int .i64 0, .int .i64 0, .slice none 0 0, .string ⟨#[]⟩, .int .i64 0, .int .i64 0, .slice none 0 0] 319) = W := hW
 have hgr : g ≠ r := by omega
 have HIW : Hid (RI r s W) := by show RI r s W; rw [← hW]; exact h.low ((Below.refl _ _).alloc (Nat.le_refl _) _)
 have HFW : Hid (Fr (fun j => j = r) w W) := by show Fr _ w W; rw [← hW]; exact (Fr.refl _ w).alloc _
 have HROW : Hid (W.heap[g]? = some (.cells #[.string ⟨#[]⟩, .string ⟨#[]⟩, .int .i64 0, .int .i64 0, .int .i64 0, .int .i64 0, .slice none 0 0, .string ⟨#[]⟩, .int .i64 0, .int .i64 0, .slice none 0 0] 319 (0, 0))) := by show _ = _; rw [← hW', ← hg]; exact heap_alloc_new _ _
 have HSTEP : Hid (∀ (X Y : World) (cs : Array Value) (st : RS), X.heap[g]? = some (.cells cs 319 (0, 0)) → Fr (fun j => j = r) w X → RDid r st X Y → Y.heap[g]? = some (.cells cs 319 (0, 0)) ∧ Fr (fun j => j = r) w Y) := fun X Y cs st h1 h2 h3 => ⟨by rw [h3.2.old g (Array.getElem?_eq_some_iff.1 h1).1 hgr]; exact h1, h2.trans' h3.2⟩
 have HSET : Hid (∀ (X : World) (cs : Array Value) (st : RS) (k : Nat) (v : Value), X.heap[g]? = some (.cells cs 319 (0, 0)) → Fr (fun j => j = r) w X → RI r st X → (X.setCell ⟨g, k, none⟩ v).heap[g]? = some (.cells (cs.setIfInBounds k v) 319 (0, 0)) ∧ Fr (fun j => j = r) w (X.setCell ⟨g, k, none⟩ v) ∧ RI r st (X.setCell ⟨g, k, none⟩ v)) := fun X cs st k v h1 h2 h3 => ⟨set_heap _ _ _ _ _ _ _ h1, h2.set (g := g) (.inr (by rw [HG.out]; exact Nat.le_refl _)) _ _, ⟨by rw [set_other _ _ _ _ _ hgr.symm]; exact h3.row, h3.fn, h3.nt, h3.small⟩⟩
 have HOWN : Hid (∀ (X Y : World) (B n : Nat) (v : Value) (xs : List Value) (st st' : RS), X.ownsRow B 70 2 v n xs → RI r st X → RDid r st' X Y → Y.ownsRow B 70 2 v n xs) := fun X Y B n v xs st st' ho hi hd => own_kept ho (fun q hq => hd.2.old q (own_lt ho q hq) (fun e => by
  obtain ⟨cur, hc⟩ := own_type ho q hq
  have h2 := hi.row
  rw [← e, hc] at h2; simp at h2))
 have HOWS : Hid (∀ (X : World) (B n k : Nat) (v u : Value) (xs : List Value) (cs : Array Value), X.ownsRow B 70 2 v n xs → X.heap[g]? = some (.cells cs 319 (0, 0)) → (X.setCell ⟨g, k, none⟩ u).ownsRow B 70 2 v n xs) := fun X B n k v u xs cs ho hr => own_kept ho (fun q hq => set_other _ _ _ _ _ (fun e => by
  obtain ⟨cur, hc⟩ := own_type ho q hq
  rw [e, hr] at hc; simp at hc))
 have HTOLD : Hid (s.told = if s2.wrong then ⟨s2, root, lst, L, num, ⟨#[]⟩⟩ else ⟨((if 512 < L.cnt then s2.refuse else s2).bytes (L.cnt * 32)).1, root, lst, L, num, ((if 512 < L.cnt then s2.refuse else s2).bytes (L.cnt * 32)).2⟩) := by
  show _ = _
  unfold RS.told
  simp only [hs0, hs1, hroot, hL, hs2, hnum, hlst]
 have HCB : Hid (s2.wrong = false → L.cnt ≤ 10000000) := fun hw => by
  obtain ⟨k0, k1, k2, k3⟩ := hLok hw
  have h1 : nst (L.K * L.C) (lenE L.es) ≤ lenE L.es := nst_len _ _ (Nat.mul_pos k0 k2)
  exact Nat.le_trans (Nat.mul_le_mul (Nat.le_trans h1 hLs) k1) (by omega)
 have HLOK : Hid _ := hLok
 clear h hs0 hs1 hroot hL hs2 hnum hlst hLok hW
 go_enter Tryz.func246, Tryz.ntmps246
 go_wp2_with fail
 try rw [hW']
 try rw [hg]
 clear hW' hg
 refine Calls.mono (H0.out _ HIW.out) ?_
 rintro e w0 ⟨rfl, hD⟩
 obtain ⟨hr, hf⟩ := HSTEP.out _ _ _ _ HROW.out HFW.out hD
 have HR0 : Hid _ := hr
 have HF0 : Hid _ := hf
 have HI0 : Hid (RI r s0 w0) := hD.1
 clear hr hf hD
 go_wp2_with fail
 refine Calls.mono (H1.out _ HI0.out) ?_
 rintro e w1 ⟨rfl, hD⟩
 obtain ⟨hr, hf⟩ := HSTEP.out _ _ _ _ HR0.out HF0.out hD
 have c0 : w1.cell? ⟨g, 0, none⟩ = some (.string ⟨#[]⟩) := cell_of_row _ _ _ _ 319 _ hr
 have f0 := frozen_of_row w1 g 0 _ 319 hr
 obtain ⟨hr', hf', hi'⟩ := HSET.out w1 _ s1 0 (.string root) hr hf hD.1
 obtain ⟨X1, hX1⟩ : ∃ X, w1.setCell ⟨g, 0, none⟩ (.string root) = X := ⟨_, rfl⟩
 rw [hX1] at hr' hf' hi'
 have HR1 : Hid (X1.heap[g]? = some (.cells (volC root ⟨#[]⟩ 0 0 0 0 (.slice none 0 0) ⟨#[]⟩ 0 0 (.slice none 0 0)) 319 (0, 0))) := hr'
 have HF1 : Hid _ := hf'
 have HI1 : Hid _ := hi'
 have HP : Hid _ := rplace r s1 X1 hi'
 clear hD hr hf hr' hf' hi'
 go_wp2_with fail
 try rw [hX1]
 clear hX1 c0 f0
 refine Calls.mono HP.out ?_
 rintro e w1' ⟨rfl, rfl⟩
 go_wp2_with fail
 refine Calls.mono (H2.out _ HI1.out) ?_
 rintro e w2 ⟨vE, rfl, hO, hD⟩
 replace hO := own_base hO HF1.out.size
 obtain ⟨aE, kE, hvE⟩ := own_shape hO
 subst hvE
 obtain ⟨hr, hf⟩ := HSTEP.out _ _ _ _ HR1.out HF1.out hD
 have a2 : w2.cell? ⟨g, 2, none⟩ = some (.int .i64 0) := cell_of_row _ _ _ _ 319 _ hr
 have b2 := frozen_of_row w2 g 2 _ 319 hr
 obtain ⟨r2, q2, i2⟩ := HSET.out w2 _ L.st 2 (.int .i64 L.K) hr hf hD.1
 replace r2 : (w2.setCell ⟨g, 2, none⟩ (.int .i64 L.K)).heap[g]? = some (.cells (volC root ⟨#[]⟩ L.K 0 0 0 (.slice none 0 0) ⟨#[]⟩ 0 0 (.slice none 0 0)) 319 (0, 0)) := r2
 have o2 := HOWS.out _ _ _ 2 _ (.int .i64 L.K) _ _ hO hr
 have a3 : (w2.setCell ⟨g, 2, none⟩ (.int .i64 L.K)).cell? ⟨g, 3, none⟩ = some (.int .i64 0) := cell_of_row _ _ _ _ 319 _ r2
 have b3 := frozen_of_row _ g 3 _ 319 r2
 obtain ⟨r3, q3, i3⟩ := HSET.out _ _ L.st 3 (.int .i64 L.M) r2 q2 i2
 replace r3 : ((w2.setCell ⟨g, 2, none⟩ (.int .i64 L.K)).setCell ⟨g, 3, none⟩ (.int .i64 L.M)).heap[g]? = some (.cells (volC root ⟨#[]⟩ L.K L.M 0 0 (.slice none 0 0) ⟨#[]⟩ 0 0 (.slice none 0 0)) 319 (0, 0)) := r3
 have o3 := HOWS.out _ _ _ 3 _ (.int .i64 L.M) _ _ o2 r2
 have a4 : ((w2.setCell ⟨g, 2, none⟩ (.int .i64 L.K)).setCell ⟨g, 3, none⟩ (.int .i64 L.M)).cell? ⟨g, 4, none⟩ = some (.int .i64 0) := cell_of_row _ _ _ _ 319 _ r3
 have b4 := frozen_of_row _ g 4 _ 319 r3
 obtain ⟨r4, q4, i4⟩ := HSET.out _ _ L.st 4 (.int .i64 L.C) r3 q3 i3
 replace r4 : (((w2.setCell ⟨g, 2, none⟩ (.int .i64 L.K)).setCell ⟨g, 3, none⟩ (.int .i64 L.M)).setCell ⟨g, 4, none⟩ (.int .i64 L.C)).heap[g]? = some (.cells (volC root ⟨#[]⟩ L.K L.M L.C 0 (.slice none 0 0) ⟨#[]⟩ 0 0 (.slice none 0 0)) 319 (0, 0)) := r4
 have o4 := HOWS.out _ _ _ 4 _ (.int .i64 L.C) _ _ o3 r3
 have a5 : (((w2.setCell ⟨g, 2, none⟩ (.int .i64 L.K)).setCell ⟨g, 3, none⟩ (.int .i64 L.M)).setCell ⟨g, 4, none⟩ (.int .i64 L.C)).cell? ⟨g, 5, none⟩ = some (.int .i64 0) := cell_of_row _ _ _ _ 319 _ r4
 have b5 := frozen_of_row _ g 5 _ 319 r4
 obtain ⟨r5, q5, i5⟩ := HSET.out _ _ L.st 5 (.int .i64 L.V) r4 q4 i4
 replace r5 : ((((w2.setCell ⟨g, 2, none⟩ (.int .i64 L.K)).setCell ⟨g, 3, none⟩ (.int .i64 L.M)).setCell ⟨g, 4, none⟩ (.int .i64 L.C)).setCell ⟨g, 5, none⟩ (.int .i64 L.V)).heap[g]? = some (.cells (volC root ⟨#[]⟩ L.K L.M L.C L.V (.slice none 0 0) ⟨#[]⟩ 0 0 (.slice none 0 0)) 319 (0, 0)) := r5
 have o5 := HOWS.out _ _ _ 5 _ (.int .i64 L.V) _ _ o4 r4
 have a6 : ((((w2.setCell ⟨g, 2, none⟩ (.int .i64 L.K)).setCell ⟨g, 3, none⟩ (.int .i64 L.M)).setCell ⟨g, 4, none⟩ (.int .i64 L.C)).setCell ⟨g, 5, none⟩ (.int .i64 L.V)).cell? ⟨g, 6, none⟩ = some (.slice none 0 0) := cell_of_row _ _ _ _ 319 _ r5
 have b6 := frozen_of_row _ g 6 _ 319 r5
 obtain ⟨r6, q6, i6⟩ := HSET.out _ _ L.st 6 (.slice aE L.es.length kE) r5 q5 i5
 have o6 := HOWS.out _ _ _ 6 _ (.slice aE L.es.length kE) _ _ o5 r5
 obtain ⟨X6, hX6⟩ : ∃ X, ((((w2.setCell ⟨g, 2, none⟩ (.int .i64 L.K)).setCell ⟨g, 3, none⟩ (.int .i64 L.M)).setCell ⟨g, 4, none⟩ (.int .i64 L.C)).setCell ⟨g, 5, none⟩ (.int .i64 L.V)).setCell ⟨g, 6, none⟩ (.slice aE L.es.length kE) = X := ⟨_, rfl⟩
 rw [hX6] at r6 q6 i6 o6
 have HR6 : Hid (X6.heap[g]? = some (.cells (volC root ⟨#[]⟩ L.K L.M L.C L.V (.slice aE L.es.length kE) ⟨#[]⟩ 0 0 (.slice none 0 0)) 319 (0, 0))) := r6
 have HF6 : Hid _ := q6
 have HI6 : Hid _ := i6
 have HO6 : Hid _ := o6
 clear hr hf hD hO r2 q2 i2 o2 r3 q3 i3 o3 r4 q4 i4 o4 r5 q5 i5 o5 r6 q6 i6 o6
 go_wp2_with fail
 try rw [hX6]
 clear hX6 a2 b2 a3 b3 a4 b4 a5 b5 a6 b6
 refine Calls.mono (H4.out _ HI6.out) ?_
 rintro e w7 ⟨rfl, hB⟩
 have hD := RDid.same HI6.out hB
 obtain ⟨hr, hf⟩ := HSTEP.out _ _ _ _ HR6.out HF6.out hD
 have hO := HOWN.out _ _ _ _ _ _ _ _ HO6.out HI6.out hD
 have a1 : w7.cell? ⟨g, 1, none⟩ = some (.string ⟨#[]⟩) := cell_of_row _ _ _ _ 319 _ hr
 have b1 := frozen_of_row w7 g 1 _ 319 hr
 obtain ⟨r7, q7, i7⟩ := HSET.out w7 _ L.st 1 (.string lst) hr hf hD.1
 have o7 := HOWS.out _ _ _ 1 _ (.string lst) _ _ hO hr
 obtain ⟨X7, hX7⟩ : ∃ X, w7.setCell ⟨g, 1, none⟩ (.string lst) = X := ⟨_, rfl⟩
 rw [hX7] at r7 q7 i7 o7
 have a5 : X7.cell? ⟨g, 5, none⟩ = some (.int .i64 L.V) := cell_of_row _ _ _ _ 319 _ r7
 have HR7 : Hid (X7.heap[g]? = some (.cells (volC root lst L.K L.M L.C L.V (.slice aE L.es.length kE) ⟨#[]⟩ 0 0 (.slice none 0 0)) 319 (0, 0))) := r7
 have HF7 : Hid _ := q7
 have HI7 : Hid _ := i7
 have HO7 : Hid _ := o7
 clear hB hr hf hD hO r7 q7 i7 o7
 go_wp2_with fail
 try rw [hX7]
 clear hX7 a1 b1 a5
 rw [show wrap64 ((L.V : Int) - 1) = (L.V : Int) - 1 by have := HV.out; unfold wrap64; omega]
 refine Calls.mono (H3.out _ HI7.out) ?_
 rintro e w8 ⟨rfl, hD⟩
 obtain ⟨hr, hf⟩ := HSTEP.out _ _ _ _ HR7.out HF7.out hD
 have hO := HOWN.out _ _ _ _ _ _ _ _ HO7.out HI7.out hD
 have a8 : w8.cell? ⟨g, 8, none⟩ = some (.int .i64 0) := cell_of_row _ _ _ _ 319 _ hr
 have b8 := frozen_of_row w8 g 8 _ 319 hr
 obtain ⟨r8, q8, i8⟩ := HSET.out w8 _ s2 8 (.int .i64 num) hr hf hD.1
 have o8 := HOWS.out _ _ _ 8 _ (.int .i64 num) _ _ hO hr
 obtain ⟨X8, hX8⟩ : ∃ X, w8.setCell ⟨g, 8, none⟩ (.int .i64 num) = X := ⟨_, rfl⟩
 rw [hX8] at r8 q8 i8 o8
 have HW : Hid _ := rwrong r s2 X8 i8
 have HR8 : Hid (X8.heap[g]? = some (.cells (volC root lst L.K L.M L.C L.V (.slice aE L.es.length kE) ⟨#[]⟩ num 0 (.slice none 0 0)) 319 (0, 0))) := r8
 have HF8 : Hid _ := q8
 have HI8 : Hid _ := i8
 have HO8 : Hid _ := o8
 clear hr hf hD hO r8 q8 i8 o8
 go_wp2_with fail
 try rw [hX8]
 clear hX8 a8 b8
 refine Calls.mono HW.out ?_
 rintro e w9 ⟨rfl, hB⟩
 have hD := RDid.same HI8.out hB
 obtain ⟨hr, hf⟩ := HSTEP.out _ _ _ _ HR8.out HF8.out hD
 have hO := HOWN.out _ _ _ _ _ _ _ _ HO8.out HI8.out hD
 have HR9 : Hid _ := hr
 have HF9 : Hid _ := hf
 have HI9 : Hid _ := hD.1
 have HO9 : Hid _ := hO
 clear hr hf hD hO hB HR0 HF0 HI0 HR1 HF1 HI1 HR6 HF6 HI6 HO6 HR7 HF7 HI7 HO7 HW HR8 HF8 HI8 HO8
 cases hwr : s2.wrong with
 | true =>
  go_wp2_with fail
  go_ret
  rw [HTOLD.out, if_pos hwr]
  exact ⟨g, _, rfl, Nat.le_of_eq HG.out, HR9.out, HO9.out, HI9.out, HF9.out⟩
 | false =>
  obtain ⟨k0, k1, k2, k3⟩ := HLOK.out hwr
  have c2 : w9.cell? ⟨g, 2, none⟩ = some (.int .i64 L.K) := cell_of_row _ _ _ _ 319 _ HR9.out
  have c3 : w9.cell? ⟨g, 3, none⟩ = some (.int .i64 L.M) := cell_of_row _ _ _ _ 319 _ HR9.out
  have c4 : w9.cell? ⟨g, 4, none⟩ = some (.int .i64 L.C) := cell_of_row _ _ _ _ 319 _ HR9.out
  have c5 : w9.cell? ⟨g, 5, none⟩ = some (.int .i64 L.V) := cell_of_row _ _ _ _ 319 _ HR9.out
  have c6 : w9.cell? ⟨g, 6, none⟩ = some (.slice aE L.es.length kE) := cell_of_row _ _ _ _ 319 _ HR9.out
  have HC : Hid _ := hcount g _ L.es.length kE L.K L.M L.C L.V aE L.es w9 c2 c3 c4 c5 c6 rfl HO9.out (fun i => Nat.le_trans (lenE_take_le _ i) (by omega)) (by omega) k0 k1 k2 k3
  clear c2 c3 c4 c5 c6 k0 k1 k2 k3
  go_wp2_with fail
  refine Calls.mono HC.out ?_
  rintro e w10 ⟨rfl, hB⟩
  have hD := RDid.same HI9.out hB
  obtain ⟨hr, hf⟩ := HSTEP.out _ _ _ _ HR9.out HF9.out hD
  have hO := HOWN.out _ _ _ _ _ _ _ _ HO9.out HI9.out hD
  have HR10 : Hid _ := hr
  have HF10 : Hid _ := hf
  have HI10 : Hid _ := hD.1
  have HO10 : Hid _ := hO
  clear hr hf hD hO hB HC
  obtain ⟨cn, hcn⟩ : ∃ x, L.cnt = x := ⟨_, rfl⟩
  have hcn2 : nst (L.K * L.C) (lenE L.es) * (L.K + L.M) = cn := hcn
  rw [hcn2]
  have hcb : cn ≤ 10000000 := by rw [← hcn]; exact HCB.out hwr
  have HT : Hid (s.told = ⟨((if 512 < cn then s2.refuse else s2).bytes (cn * 32)).1, root, lst, L, num, ((if 512 < cn then s2.refuse else s2).bytes (cn * 32)).2⟩) := by
   show _ = _
   rw [HTOLD.out, if_neg (by rw [hwr]; simp), hcn]
  clear hcn hcn2
  have HEND : Hid (∀ (s3 : RS) (X : World), (if 512 < cn then s2.refuse else s2) = s3 → X.heap[g]? = some (.cells (volC root lst L.K L.M L.C L.V (.slice aE L.es.length kE) ⟨#[]⟩ num 0 (.slice none 0 0)) 319 (0, 0)) → Fr (fun j => j = r) w X → RI r s3 X → X.ownsRow w.heap.size 70 2 (.slice aE L.es.length kE) L.es.length (enV L.es) → Calls Tryz.prog 249 #[.pointer (some ⟨r, 0, none⟩), .int .i64 (cn * 32 : Nat)] X fun e w' => e = .returned (.string s.told.lv) ∧ w'.cell? ⟨g, 7, none⟩ = some (.string ⟨#[]⟩) ∧ w'.frozen? ⟨g, 7, none⟩ = false ∧ Hid ((w'.setCell ⟨g, 7, none⟩ (.string s.told.lv)).heap[g]? = some (.cells (volC s.told.root s.told.lst s.told.L.K s.told.L.M s.told.L.C s.told.L.V (.slice aE L.es.length kE) s.told.lv s.told.num 0 (.slice none 0 0)) 319 (0, 0)) ∧ (w'.setCell ⟨g, 7, none⟩ (.string s.told.lv)).ownsRow w.heap.size 70 2 (.slice aE L.es.length kE) s.told.L.es.length (enV s.told.L.es) ∧ RDid r s.told.st w (w'.setCell ⟨g, 7, none⟩ (.string s.told.lv)))) := by
   intro s3 X h3 hr hf hi ho
   have HT' := HT.out
   rw [h3] at HT'
   rw [HT']
   refine Calls.mono (rbytes r s3 (cn * 32) X hi (by omega)) ?_
   rintro e w' ⟨rfl, hD⟩
   obtain ⟨hr, hf⟩ := HSTEP.out _ _ _ _ hr hf hD
   have hO := HOWN.out _ _ _ _ _ _ _ _ ho hi hD
   obtain ⟨r8, q8, i8⟩ := HSET.out w' _ _ 7 (.string (s3.bytes (cn * 32)).2) hr hf hD.1
   have o8 := HOWS.out _ _ _ 7 _ (.string (s3.bytes (cn * 32)).2) _ _ hO hr
   exact ⟨rfl, cell_of_row _ _ _ _ 319 _ hr, frozen_of_row w' g 7 _ 319 hr, r8, o8, i8, q8⟩
  by_cases hbig : 512 < cn
  ·have HRF : Hid _ := rrefuse r s2 w10 HI10.out
   go_wp2_with fail
   refine Calls.mono HRF.out ?_
   rintro e w11 ⟨rfl, hD⟩
   obtain ⟨hr, hf⟩ := HSTEP.out _ _ _ _ HR10.out HF10.out hD
   have hO := HOWN.out _ _ _ _ _ _ _ _ HO10.out HI10.out hD
   have HE : Hid _ := HEND.out s2.refuse w11 (if_pos hbig) hr hf hD.1 hO
   clear hr hf hO hD
   go_wp2_with fail
   rw [show (cn : Int) * 32 = ((cn * 32 : Nat) : Int) by simp]
   refine Calls.mono HE.out ?_
   rintro e w12 ⟨rfl, c7, f7, HH⟩
   go_wp2_with fail
   go_ret
   exact ⟨g, _, rfl, Nat.le_of_eq HG.out, HH.out⟩
  ·have HE : Hid _ := HEND.out s2 w10 (if_neg hbig) HR10.out HF10.out HI10.out HO10.out
   go_wp2_with fail
   rw [show (cn : Int) * 32 = ((cn * 32 : Nat) : Int) by simp]
   refine Calls.mono HE.out ?_
   rintro e w12 ⟨rfl, c7, f7, HH⟩
   go_wp2_with fail
   go_ret
   exact ⟨g, _, rfl, Nat.le_of_eq HG.out, HH.out⟩
end Go.Proofs.YtadinjaocnlglaaGreatDoor
