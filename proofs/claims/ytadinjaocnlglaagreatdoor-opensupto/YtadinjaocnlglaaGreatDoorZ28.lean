/-
  What was worked out of a Stock's stripes; the walk of Stock.stripe.
  The walk of Stock.stripe.
  A row that is owned, put behind another; the walks of slices.Clone.
  The rows of a report while it is made.
  The walk of Stock.Verify.
-/
import Derived.Test.YtadinjaocnlglaaGreatDoorZ27
import Derived.Lib.SliceRun
namespace Go.Proofs.YtadinjaocnlglaaGreatDoor
open Go.RowKit
set_option maxRecDepth 100000
set_option maxHeartbeats 4000000
def TT.n (T : TT) : Nat := T.L.K + T.L.M
def stS (T : TT) (bl : Nat → ByteArray) (s i : Nat) : ByteArray := bl (s * T.n + i)
def stH (kt : Nat → Int) (T : TT) (bl : Nat → ByteArray) (s i : Nat) : Bool := goodB kt T.L.C T.lv (s * T.n + i) (bl (s * T.n + i))
def stF (kt : Nat → Int) (T : TT) (bl : Nat → ByteArray) (s : Nat) : Nat := fate kt T.L.K T.L.M T.L.C T.lv s (lenE T.L.es) (stS T bl s) (stH kt T bl s)
def stB (kt : Nat → Int) (T : TT) (bl : Nat → ByteArray) (s : Nat) : List Nat := badF (stH kt T bl s) (s * T.n) T.n
def stM (kt : Nat → Int) (T : TT) (bl : Nat → ByteArray) (s : Nat) : Nat → ByteArray := mdT (stS T bl s) (stH kt T bl s) T.L.K T.L.M T.L.C
def blD (kt : Nat → Int) (T : TT) (bl : Nat → ByteArray) (dn : Nat → Bool) (x : Nat) : ByteArray := if dn (x / T.n) = true ∧ stF kt T bl (x / T.n) = 0 then stM kt T bl (x / T.n) (x % T.n) else bl x
theorem blD_none (kt : Nat → Int) (T : TT) (bl : Nat → ByteArray) : blD kt T bl (fun _ => false) = bl := by
 funext x; unfold blD; rw [if_neg (by simp)]
theorem div_of {s n i : Nat} (hi : i < n) : (s * n + i) / n = s ∧ (s * n + i) % n = i := by
 have hn : 0 < n := by omega
 constructor
 ·rw [Nat.mul_comm, Nat.mul_add_div hn, Nat.div_eq_of_lt hi, Nat.add_zero]
 ·rw [Nat.mul_comm, Nat.mul_add_mod, Nat.mod_eq_of_lt hi]
theorem blD_at {kt : Nat → Int} {T : TT} {bl : Nat → ByteArray} {dn : Nat → Bool} {s i : Nat} (hd : dn s = false) (hi : i < T.n) : blD kt T bl dn (s * T.n + i) = bl (s * T.n + i) := by
 unfold blD
 rw [(div_of hi).1, hd, if_neg (by simp)]
theorem in_stripe {x s n : Nat} (hn : 0 < n) (h : x / n = s) : s * n ≤ x ∧ x < s * n + n := by
 subst h
 have h1 := Nat.div_add_mod x n
 have h2 := Nat.mod_lt x hn
 rw [Nat.mul_comm] at h1
 omega
theorem blD_step {kt : Nat → Int} {T : TT} {bl : Nat → ByteArray} {dn : Nat → Bool} {s : Nat} (hn : 0 < T.n) (hd : dn s = false) : blD kt T bl (updB dn s true) = if stF kt T bl s = 0 then laid (blD kt T bl dn) (s * T.n) T.n (stM kt T bl s) else blD kt T bl dn := by
 funext x
 by_cases hx : x / T.n = s
 ·obtain ⟨h1, h2⟩ := in_stripe hn hx
  have e1 : updB dn s true (x / T.n) = true := by unfold updB; rw [if_pos hx]
  by_cases hf : stF kt T bl s = 0
  ·rw [if_pos hf]
   unfold laid
   rw [if_pos ⟨h1, h2⟩]
   unfold blD
   rw [e1, hx, if_pos ⟨rfl, hf⟩]
   congr 1
   have := (div_of (s := s) (n := T.n) (i := x - s * T.n) (by omega)).2
   rw [show s * T.n + (x - s * T.n) = x by omega] at this
   exact this
  ·rw [if_neg hf]
   unfold blD
   rw [e1, hx, hd, if_neg (fun h => hf h.2), if_neg (by simp)]
 ·have e1 : updB dn s true (x / T.n) = dn (x / T.n) := by unfold updB; rw [if_neg hx]
  have hnot : ¬ (s * T.n ≤ x ∧ x < s * T.n + T.n) := fun h => hx (by
   have := (div_of (s := s) (n := T.n) (i := x - s * T.n) (by omega)).1
   rw [show s * T.n + (x - s * T.n) = x by omega] at this
   exact this)
  have e2 : blD kt T bl (updB dn s true) x = blD kt T bl dn x := by unfold blD; rw [e1]
  rw [e2]
  split
  ·unfold laid; rw [if_neg hnot]
  ·rfl
def fiP (dn : Nat → Bool) (zs : Nat → Nat) : Nat → Value := fun s => if dn s = true then .pointer (some ⟨zs s, 0, none⟩) else .pointer none
structure VS (kt : Nat → Int) (B k g p q f : Nat) (T : TT) (un : Value) (ul : List Nat) (rd : Nat → Bool) (bl : Nat → ByteArray) (dn : Nat → Bool) (zs : Nat → Nat) (bd : Nat → Value) (w : World) : Prop where
 row : w.heap[k]? = some (.cells (stC (.pointer (some ⟨g, 0, none⟩)) un (.slice (some ⟨p, 0, none⟩) T.L.V T.L.V) (.slice (some ⟨q, 0, none⟩) T.L.cnt T.L.cnt) (.slice (some ⟨f, 0, none⟩) T.L.ns T.L.ns)) 224 (0, 0))
 hd : Head2 B g T w
 unO : w.ownsRow B 3 1 un ul.length (unV ul)
 rdR : Rw w p T.L.V 4 (boR rd)
 blR : Rw w q T.L.cnt 9 (tX (blD kt T bl dn))
 fiR : Rw w f T.L.ns 232 (fiP dn zs)
 fn : ∀ s, s < T.L.ns → dn s = true → w.heap[zs s]? = some (.cells (fnC (bd s) (stF kt T bl s)) 231 (0, 0)) ∧ w.ownsRow B 3 1 (bd s) (stB kt T bl s).length (unV (stB kt T bl s))
theorem Head2.kept {B g : Nat} {T : TT} {w w' : World} (h : Head2 B g T w) (ho : ∀ (j : Nat) (cs : Array Value) (t : TypeId), t = 319 ∨ t = 70 → w.heap[j]? = some (.cells cs t (0, 0)) → w'.heap[j]? = some (.cells cs t (0, 0))) : Head2 B g T w' := by
 obtain ⟨aE, kE, num, first, vB, h1, h2⟩ := h
 refine ⟨aE, kE, num, first, vB, ho _ _ _ (.inl rfl) h1, own_kept h2 (fun y hy => ?_)⟩
 obtain ⟨cur, hcur⟩ := own_type h2 y hy
 rw [ho _ _ _ (.inr rfl) hcur, hcur]
theorem own_kept' {w w' : World} {base : Nat} {e : TypeId} {size : Nat} {v : Value} {n : Nat} {xs : List Value} (h : w.ownsRow base e size v n xs) (ho : ∀ (j : Nat) (cs : Array Value), v.ownBlock = some j → w.heap[j]? = some (.cells cs e (0, 0)) → w'.heap[j]? = some (.cells cs e (0, 0))) : w'.ownsRow base e size v n xs := own_kept h (fun y hy => by
 obtain ⟨cur, hcur⟩ := own_type h y hy
 rw [ho _ _ hy hcur, hcur])
theorem VS.kept {kt : Nat → Int} {B k g p q f : Nat} {T : TT} {un : Value} {ul : List Nat} {rd : Nat → Bool} {bl : Nat → ByteArray} {dn : Nat → Bool} {zs : Nat → Nat} {bd : Nat → Value} {w w' : World} (h : VS kt B k g p q f T un ul rd bl dn zs bd w)
  (ho : ∀ (j : Nat) (cs : Array Value) (t : TypeId), t = 224 ∨ t = 319 ∨ t = 70 ∨ t = 4 ∨ t = 9 ∨ t = 232 ∨ t = 231 → w.heap[j]? = some (.cells cs t (0, 0)) → w'.heap[j]? = some (.cells cs t (0, 0))) (h3 : ∀ j, (un.ownBlock = some j ∨ ∃ s, s < T.L.ns ∧ dn s = true ∧ (bd s).ownBlock = some j) → w'.heap[j]? = w.heap[j]?) : VS kt B k g p q f T un ul rd bl dn zs bd w' where
 row := ho _ _ _ (by simp) h.row
 hd := h.hd.kept (fun j cs t ht hj => ho j cs t (by rcases ht with e | e <;> simp [e]) hj)
 unO := own_kept h.unO (fun y hy => h3 y (.inl hy))
 rdR := ho _ _ _ (by simp) h.rdR
 blR := ho _ _ _ (by simp) h.blR
 fiR := ho _ _ _ (by simp) h.fiR
 fn := fun s hs hd => ⟨ho _ _ _ (by simp) (h.fn s hs hd).1, own_kept (h.fn s hs hd).2 (fun y hy => h3 y (.inr ⟨s, hs, hd, hy⟩))⟩
theorem VS.below {kt : Nat → Int} {B k g p q f : Nat} {T : TT} {un : Value} {ul : List Nat} {rd : Nat → Bool} {bl : Nat → ByteArray} {dn : Nat → Bool} {zs : Nat → Nat} {bd : Nat → Value} {w w' : World} (h : VS kt B k g p q f T un ul rd bl dn zs bd w) (hb : Below w.heap.size w w') : VS kt B k g p q f T un ul rd bl dn zs bd w' :=
 h.kept (fun j cs t _ hj => (hb.block j (Array.getElem?_eq_some_iff.1 hj).1).trans hj) (fun j hj => by
  rcases hj with e | ⟨s, hs, hd, e⟩
  ·exact hb.block j (own_lt h.unO j e)
  ·exact hb.block j (own_lt (h.fn s hs hd).2 j e))
theorem VS.hb {kt : Nat → Int} {B k g p q f : Nat} {T : TT} {un : Value} {ul : List Nat} {rd : Nat → Bool} {bl : Nat → ByteArray} {dn : Nat → Bool} {zs : Nat → Nat} {bd : Nat → Value} {w : World} (h : VS kt B k g p q f T un ul rd bl dn zs bd w) : HB B k g q T.L.cnt T (blD kt T bl dn) w :=
 ⟨cell_of_row _ _ _ _ 224 _ h.row, cell_of_row _ _ _ _ 224 _ h.row, h.hd, h.blR⟩
theorem VS.worked {kt : Nat → Int} {B k g p q f : Nat} {T : TT} {un : Value} {ul : List Nat} {rd : Nat → Bool} {bl : Nat → ByteArray} {dn : Nat → Bool} {zs : Nat → Nat} {bd : Nat → Value} {w w1 : World} {s z : Nat} {bv : Value} (h : VS kt B k g p q f T un ul rd bl dn zs bd w) (hn : 0 < T.n) (hs : s < T.L.ns) (hdn : dn s = false) (hB : B ≤ w.heap.size)
  (hz : w.heap.size ≤ z) (hzr : w1.heap[z]? = some (.cells (fnC bv (stF kt T bl s)) 231 (0, 0))) (hbv : w1.ownsRow w.heap.size 3 1 bv (stB kt T bl s).length (unV (stB kt T bl s))) (hq : Rw w1 q T.L.cnt 9 (tX (if stF kt T bl s = 0 then laid (blD kt T bl dn) (s * T.n) T.n (stM kt T bl s) else blD kt T bl dn))) (hF : Fr (fun j => j = q) w w1) :
  VS kt B k g p q f T un ul rd bl (updB dn s true) (fun t => if t = s then z else zs t) (fun t => if t = s then bv else bd t) (w1.setCell ⟨f, s, none⟩ (.pointer (some ⟨z, 0, none⟩))) := by
 have hqR : w.heap[q]? = _ := h.blR
 have hfR : w.heap[f]? = _ := h.fiR
 have hfq : f ≠ q := row_ne hfR hqR (by decide)
 have hf1 : w1.heap[f]? = _ := (hF.old f (Array.getElem?_eq_some_iff.1 hfR).1 hfq).trans hfR
 have hold : ∀ (j : Nat) (cs : Array Value) (t : TypeId), t ≠ 9 → t ≠ 232 → w.heap[j]? = some (.cells cs t (0, 0)) → (w1.setCell ⟨f, s, none⟩ (.pointer (some ⟨z, 0, none⟩))).heap[j]? = some (.cells cs t (0, 0)) := fun j cs t h9 h232 hj => by
  rw [set_other _ _ _ _ _ (row_ne hj hfR h232), hF.old j (Array.getElem?_eq_some_iff.1 hj).1 (row_ne hj hqR h9)]
  exact hj
 have hfl := (Array.getElem?_eq_some_iff.1 hfR).1
 refine ⟨hold _ _ _ (by decide) (by decide) h.row, h.hd.kept (fun j cs t ht hj => hold j cs t (by rcases ht with e | e <;> simp [e]) (by rcases ht with e | e <;> simp [e]) hj), own_kept' h.unO (fun j cs _ hj => hold j cs 3 (by decide) (by decide) hj), hold _ _ _ (by decide) (by decide) h.rdR, ?_, ?_, fun t ht hd => ?_⟩
 ·rw [blD_step hn hdn]
  show (w1.setCell ⟨f, s, none⟩ (.pointer (some ⟨z, 0, none⟩))).heap[q]? = _
  rw [set_other _ _ _ _ _ hfq.symm]
  exact hq
 ·have : Rw w1 f T.L.ns 232 (fiP dn zs) := hf1
  refine (this.put s (.pointer (some ⟨z, 0, none⟩))).to (fun j _ => ?_)
  unfold updV fiP updB
  by_cases e : j = s
  ·simp [e]
  ·simp [e]
 ·by_cases e : t = s
  ·subst e
   rw [if_pos rfl, if_pos rfl]
   refine ⟨?_, own_base (own_kept hbv (fun y hy => set_other _ _ _ _ _ (by have := own_ge hbv y hy; omega))) hB⟩
   rw [set_other _ _ _ _ _ (by omega)]
   exact hzr
  ·have hd' : dn t = true := by unfold updB at hd; rw [if_neg e] at hd; exact hd
   rw [if_neg e, if_neg e]
   exact ⟨hold _ _ _ (by decide) (by decide) (h.fn t ht hd').1, own_kept' (h.fn t ht hd').2 (fun j cs _ hj => hold j cs 3 (by decide) (by decide) hj)⟩
theorem updB_same {dn : Nat → Bool} {s : Nat} (h : dn s = true) : updB dn s true = dn := by
 funext t; unfold updB
 by_cases e : t = s
 ·rw [if_pos e, e, h]
 ·rw [if_neg e]
def SDid (kt : Nat → Int) (B k g p q f : Nat) (T : TT) (un : Value) (ul : List Nat) (rd : Nat → Bool) (bl : Nat → ByteArray) (dn : Nat → Bool) (zs : Nat → Nat) (bd : Nat → Value) (s : Nat) (w : World) (e : Ending) (w' : World) : Prop :=
 ∃ (zs' : Nat → Nat) (bd' : Nat → Value), e = .returned (.pointer (some ⟨zs' s, 0, none⟩)) ∧ VS kt B k g p q f T un ul rd bl (updB dn s true) zs' bd' w' ∧ Fr (fun j => j = q ∨ j = f) w w' ∧ (∀ t, dn t = true → zs' t = zs t ∧ bd' t = bd t) ∧ (∀ y, dn s = false → (bd' s).ownBlock = some y → w.heap.size ≤ y)
theorem stripe_any (kt : Nat → Int) (B k g p q f s : Nat) (T : TT) (un : Value) (ul : List Nat) (rd : Nat → Bool) (bl : Nat → ByteArray) (dn : Nat → Bool) (zs : Nat → Nat) (bd : Nat → Value) (w : World) (h : VS kt B k g p q f T un ul rd bl dn zs bd w) (hT : Told1 T) (hle : T.L.es.length ≤ 16 ∧ lenE T.L.es ≤ 4096) (hG : Gd kt w) (hB : B ≤ w.heap.size) (hs : s < T.L.ns) :
  Calls Tryz.prog 123 #[.pointer (some ⟨k, 0, none⟩), .int .i64 s] w fun e w' => SDid kt B k g p q f T un ul rd bl dn zs bd s w e w' := by
 have H : Hid _ := h
 have a4 : w.cell? ⟨k, 4, none⟩ = some (.slice (some ⟨f, 0, none⟩) T.L.ns T.L.ns) := cell_of_row _ _ _ _ 224 _ h.row
 have f1 := h.fiR.cell s hs
 have f2 := h.fiR.free s
 obtain ⟨ns, hns⟩ : ∃ x, T.L.ns = x := ⟨_, rfl⟩
 have hs1 : s < ns := by omega
 have hsn : (s : Int) < (ns : Int) := by omega
 cases hd : dn s with
 | true =>
  have e1 : fiP dn zs s = .pointer (some ⟨zs s, 0, none⟩) := by unfold fiP; rw [if_pos hd]
  rw [e1] at f1
  rw [hns] at a4
  have HD : Hid _ := hd
  clear h hd e1 hG hT
  go_enter Tryz.func123, Tryz.ntmps123
  go_wp2_with fail
  go_ret
  exact ⟨zs, bd, rfl, by rw [updB_same HD.out]; exact H.out, Fr.refl _ _, fun t _ => ⟨rfl, rfl⟩, fun y hy => by rw [HD.out] at hy; cases hy⟩
 | false =>
  have e1 : fiP dn zs s = .pointer none := by unfold fiP; rw [hd]; rfl
  rw [e1] at f1
  have hn0 : 0 < T.n := by have := hT.k1; unfold TT.n; omega
  have HW : Hid (∀ X : World, Below w.heap.size w X → Calls Tryz.prog 179 #[.pointer (some ⟨k, 0, none⟩), .int .i64 s] X fun e w' => WDid q T.L.cnt (blD kt T bl dn) (s * T.n) T.n (stF kt T bl s) (stB kt T bl s) (stM kt T bl s) X e w') := fun X hX =>
   workOut_any kt B k g q T.L.cnt s T.n (s * T.n) T (blD kt T bl dn) (stS T bl s) (stH kt T bl s) X (h.below hX).hb hT hle (hG.below hX) rfl hs rfl rfl (fun i hi => blD_at hd hi) (fun i hi => rfl)
  have HD : Hid _ := hd
  have HN : Hid _ := hn0
  rw [hns] at a4
  have HQ : Hid (∀ X : World, Fr (fun j => j = q) w X → X.cell? ⟨k, 4, none⟩ = some (.slice (some ⟨f, 0, none⟩) ns ns) ∧ X.cell? ⟨f, s, none⟩ = some (.pointer none) ∧ X.frozen? ⟨f, s, none⟩ = false) := fun X hX => by
   have r1 := (hX.old k (Array.getElem?_eq_some_iff.1 h.row).1 (row_ne h.row h.blR (by decide))).trans h.row
   have r2 : Rw X f T.L.ns 232 (fiP dn zs) := (hX.old f (Array.getElem?_eq_some_iff.1 h.fiR).1 (row_ne h.fiR h.blR (by decide))).trans h.fiR
   refine ⟨by rw [← hns]; exact cell_of_row _ _ _ _ 224 _ r1, ?_, r2.free s⟩
   rw [r2.cell s hs, e1]
  have hkf : k ≠ f := row_ne h.row h.fiR (by decide)
  have HKK : Hid (∀ (X : World) (v : Value), X.cell? ⟨k, 4, none⟩ = some (.slice (some ⟨f, 0, none⟩) ns ns) → (X.setCell ⟨f, s, none⟩ v).cell? ⟨k, 4, none⟩ = some (.slice (some ⟨f, 0, none⟩) ns ns)) := fun X v hX => (World.cell?_of_block (a := ⟨k, 4, none⟩) (set_other X f s k v hkf)).trans hX
  clear h hd e1 hG hT hn0
  go_enter Tryz.func123, Tryz.ntmps123
  go_wp2_with fail
  go_region_held3 (fun w2 => w2.cell? ⟨k, 4, none⟩ = some (.slice (some ⟨f, 0, none⟩) ns ns)) (first | go_keep | exact HKK.out w1 _ q4) ((go_at_call 179; refine Calls.mono (HW.out _ (by first | exact Below.refl _ _ | exact (Below.refl _ _).drew)) ?_; rintro e w1 ⟨z, bv, rfl, hz, hzr, hbv, hq, hF⟩; have hF1 : Fr (fun j => j = q) w w1 := (by first | exact hF | exact (Fr.drew (Fr.refl _ w)).trans' hF); have hz1 : w.heap.size ≤ z := hz; have hbv1 : w1.ownsRow w.heap.size 3 1 bv (stB kt T bl s).length (unV (stB kt T bl s)) := hbv; obtain ⟨q4, q5, q6⟩ := HQ.out w1 hF1))
  have HV : Hid _ := H.out.worked HN.out hs HD.out hB hz1 hzr hbv1 hq hF1
  have HF : Hid (Fr (fun j => j = q ∨ j = f) w (w1.setCell ⟨f, s, none⟩ (.pointer (some ⟨z, 0, none⟩)))) := (hF1.mono (fun j _ hj => .inl hj)).set (.inl (.inr rfl)) _ _
  have HBV : Hid _ := hbv1
  have y4 := HKK.out w1 (.pointer (some ⟨z, 0, none⟩)) q4
  have y5 : (w1.setCell ⟨f, s, none⟩ (.pointer (some ⟨z, 0, none⟩))).cell? ⟨f, s, none⟩ = some (.pointer (some ⟨z, 0, none⟩)) := by
   have := HV.out.fiR.cell s hs
   rw [this]
   simp [fiP, updB]
  obtain ⟨Y, hY⟩ : ∃ Y, w1.setCell ⟨f, s, none⟩ (.pointer (some ⟨z, 0, none⟩)) = Y := ⟨_, rfl⟩
  rw [hY] at HV HF y4 y5 ⊢
  clear hY hz hzr hbv hq hF hF1 hbv1 q4 q5 q6 hz1 a4 f1 f2
  go_wp2_with fail
  go_ret
  exact ⟨_, _, (by rw [if_pos rfl]; rfl), HV.out, HF.out, fun t ht => (by
   have e : t ≠ s := fun e => by rw [e, HD.out] at ht; cases ht
   rw [if_neg e, if_neg e]; exact ⟨rfl, rfl⟩), fun y _ hy => (by rw [if_pos rfl] at hy; exact own_ge HBV.out y hy)⟩
theorem app_rows {w : World} {B B' : Nat} {t e : TypeId} {i : TypeInfo} {z : Value} {size bytes : Nat} (ty : TypeId) (ht : Tryz.prog.underlying t = some (.slice e)) (hi : Tryz.prog.info? e = some i) (hz : i.zero = some z) (hs : i.size = size) (hb : i.bytes = bytes) (hzs : z.cells.size = size) (hs0 : 0 < size)
  {v u : Value} {n m : Nat} {xs ys : List Value} (hv : w.ownsRow B e size v n xs) (hu : w.ownsRow B' e size u m ys) (h1 : ∀ u ∈ ys, u.oneCell' = true) (hn : (n + m) * bytes ≤ 140737488355328) (hn2 : n + m ≤ 100000000000000) (hB : B ≤ w.heap.size) :
  ∃ v' w', (Builtin.append_ #[t, t] ty #[v, u]).run Tryz.prog w = .ok v' w' ∧ w'.ownsRow B e size v' (n + m) (xs ++ ys) ∧ w.grownBy w' v.ownBlock ∧ (v'.ownBlock = v.ownBlock ∨ v'.ownBlock = some w.heap.size) := by
 rcases hu.2 with ⟨rfl, rfl⟩ | ⟨g, cap, cur, rfl, _⟩
 ·have hy : ys = [] := List.length_eq_zero_iff.1 (by have := hu.1; omega)
  rw [hy, List.append_nil, Nat.add_zero]
  exact ⟨v, w, run_append_owned_none _ B t ty e i size ht hi v n xs hv, hv, ⟨rfl, rfl, rfl, Nat.le_refl _, fun _ _ _ => rfl⟩, .inl rfl⟩
 ·obtain ⟨v', w', h2, h3, h4, _, h5⟩ := run_append_own_at (P := Tryz.prog) w B t ty e i z size bytes ht hi hz hs hb hzs hs0 v n xs hv ⟨g, 0, none⟩ m cap ys hu.1 (hu.cells rfl) h1 (by unfold maxLen; omega) hn hB
  exact ⟨v', w', h2, h3, h4, h5⟩
theorem step_app {ops : Array Oper} {o : Oper} {a : Act} {w : World} {K : Act → World → Prop} {Q : Exit → Act → World → Prop} {E : Prop} (hg : o.guard = none) (x y : Operand) (t : TypeId) (hop : o.op = .call { callee := .builtin .append, args := #[x, y], argTypes := #[t, t] })
  (u v r : Value) (hu : a.eval x = u) (hv : a.eval y = v) (w' : World) (hr : (Builtin.append_ #[t, t] o.type #[u, v]).run Tryz.prog w = .ok r w') (hK : K (a.put o.dst r) w') : if Region.wanted o (yielded ops a.tmps) = true then Oper.wp Tryz.prog o a w K Q else E := by
 rw [if_pos (show Region.wanted o (yielded ops a.tmps) = true by simp [Region.wanted, hg])]
 unfold Oper.wp
 simp [execOp, hop, resolve, invoke, builtin, hu, hv, hr, Result.andThen]
 exact hK
theorem wpList_app {ops : Array Oper} {rest : List Oper} {o : Oper} {a : Act} {w : World} {Q : Exit → Act → World → Prop} (hgd : o.guard = none) (x y : Operand) (t : TypeId)
  (ho : o.op = .call { callee := .builtin .append, args := #[x, y], argTypes := #[t, t] }) (u v r : Value) (hu : a.eval x = u) (hv : a.eval y = v) (w' : World) (hr : (Builtin.append_ #[t, t] o.type #[u, v]).run Tryz.prog w = .ok r w') (h : wpList Tryz.prog ops Q rest (a.put o.dst r) w') :
  wpList Tryz.prog ops Q (o :: rest) a w := by
 refine wpList_plain hgd fun K hK => ?_
 unfold Oper.wp execOp
 simp only [ho, resolve, invoke, builtin, Sem.run_bind, Sem.run_pure, Result.andThen_ok, List.map_toArray, List.map_cons, List.map_nil, hu, hv, hr]
 exact hK _ _ h
theorem unV_one (l : List Nat) : ∀ u ∈ unV l, u.oneCell' = true := by
 intro u hu
 obtain ⟨i, _, rfl⟩ := List.mem_map.1 hu
 rfl
theorem enV_one (l : List (ByteArray × Nat)) : ∀ u ∈ enV l, u.oneCell' = true := by
 intro u hu
 obtain ⟨x, _, hx⟩ := List.mem_flatMap.1 hu
 simp at hx
 rcases hx with rfl | rfl <;> rfl
theorem own_empty (w : World) (e : TypeId) (size : Nat) : (w.alloc (.cells #[] e)).ownsRow w.heap.size e size (.slice (some ⟨w.heap.size, 0, none⟩) 0 0) 0 [] :=
 ⟨by simp, .inr ⟨w.heap.size, 0, #[], rfl, Nat.le_refl _, heap_alloc_new _ _, Nat.le_refl _, Nat.zero_le _, by simp, by simp⟩⟩
theorem clone_i (B n : Nat) (v : Value) (l : List Nat) (w : World) (h : w.ownsRow B 3 1 v n (unV l)) (hn : n ≤ 10000000000000) :
  Calls Tryz.prog 126 #[v] w fun e w' => ∃ v', e = .returned v' ∧ w'.ownsRow w.heap.size 3 1 v' n (unV l) ∧ Below w.heap.size w w' := by
 obtain ⟨i0, hi0, z0, z1, z2⟩ := info_parts info3
 rcases h.2 with ⟨rfl, rfl⟩ | ⟨g, cap, cur, rfl, _⟩
 ·have HH : Hid _ := h
  have heq := fun W => Lib.run_eql_slice_nil (P := Tryz.prog) W 39 3 none 0 0 0 0 Tryz.underlying39
  clear h
  go_enter Tryz.func126, Tryz.ntmps126
  go_wp2_with fail
  go_ret
  exact ⟨_, rfl, ⟨HH.out.1, .inl ⟨rfl, rfl⟩⟩, Below.refl _ _⟩
 ·obtain ⟨v', w', hr, ho, hg, _⟩ := app_rows 39 Tryz.underlying39 hi0 z0 z1 z2 rfl (by decide) (own_empty w 3 1) (h.alloc (.cells #[] 3)) (unV_one l) (by omega) (by omega) (by simp)
  rw [Nat.zero_add, List.nil_append] at ho
  have HO : Hid _ := ho
  have HB : Hid (Below w.heap.size w w') := ((Below.refl _ _).alloc (Nat.le_refl _) _).grown hg (by simp) (fun q hq => by simp [Value.ownBlock] at hq; omega)
  have heq := fun W => Lib.run_eql_slice_nil (P := Tryz.prog) W 39 3 (some ⟨g, 0, none⟩) n cap 0 0 Tryz.underlying39
  have HR : Hid _ := hr
  clear ho hg h hr
  go_enter Tryz.func126, Tryz.ntmps126
  go_wp2_with (at_builtin; refine wpList_app rfl (.tmp 5) (.tmp 6) 39 rfl _ _ _ rfl rfl _ HR.out ?_)
  go_ret
  exact ⟨_, rfl, HO.out, HB.out⟩
theorem info70 : (Tryz.prog.info? 70).map (fun i => (i.zero, i.size, i.bytes)) = some (some (.agg #[.string ⟨#[]⟩, .int .i64 0]), 2, 24) := by kernel_rfl
theorem clone_e (B n : Nat) (v : Value) (l : List (ByteArray × Nat)) (w : World) (h : w.ownsRow B 70 2 v n (enV l)) (hn : n ≤ 1000000) :
  Calls Tryz.prog 120 #[v] w fun e w' => ∃ v', e = .returned v' ∧ w'.ownsRow w.heap.size 70 2 v' n (enV l) ∧ Below w.heap.size w w' := by
 obtain ⟨i0, hi0, z0, z1, z2⟩ := info_parts info70
 rcases h.2 with ⟨rfl, rfl⟩ | ⟨g, cap, cur, rfl, _⟩
 ·have HH : Hid _ := h
  have heq := fun W => Lib.run_eql_slice_nil (P := Tryz.prog) W 59 70 none 0 0 0 0 Tryz.underlying59
  clear h
  go_enter Tryz.func120, Tryz.ntmps120
  go_wp2_with fail
  go_ret
  exact ⟨_, rfl, ⟨HH.out.1, .inl ⟨rfl, rfl⟩⟩, Below.refl _ _⟩
 ·obtain ⟨v', w', hr, ho, hg, _⟩ := app_rows 59 Tryz.underlying59 hi0 z0 z1 z2 rfl (by decide) (own_empty w 70 2) (h.alloc (.cells #[] 70)) (enV_one l) (by omega) (by omega) (by simp)
  rw [Nat.zero_add, List.nil_append] at ho
  have HO : Hid _ := ho
  have HB : Hid (Below w.heap.size w w') := ((Below.refl _ _).alloc (Nat.le_refl _) _).grown hg (by simp) (fun q hq => by simp [Value.ownBlock] at hq; omega)
  have heq := fun W => Lib.run_eql_slice_nil (P := Tryz.prog) W 59 70 (some ⟨g, 0, none⟩) n cap 0 0 Tryz.underlying59
  have HR : Hid _ := hr
  clear ho hg h hr
  go_enter Tryz.func120, Tryz.ntmps120
  go_wp2_with (at_builtin; refine wpList_app rfl (.tmp 5) (.tmp 6) 59 rfl _ _ _ rfl rfl _ HR.out ?_)
  go_ret
  exact ⟨_, rfl, HO.out, HB.out⟩
structure RL (B0 r : Nat) (L : List (Value × List Nat)) (out : Nat → Prop) (w : World) : Prop where
 row : w.heap[r]? = some (.cells (L.map Prod.fst).toArray 99 (0, 0))
 own : ∀ x ∈ L, w.ownsRow B0 3 1 x.1 x.2.length (unV x.2)
 apt : L.Pairwise (fun x y => Apt x.1 y.1)
 far : ∀ x ∈ L, ∀ j, x.1.ownBlock = some j → ¬ out j
theorem unV_app (a b : List Nat) : unV (a ++ b) = unV a ++ unV b := by simp [unV]
theorem set_mid (l1 l2 : List (Value × List Nat)) (x y : Value × List Nat) : ((l1 ++ x :: l2).map Prod.fst).toArray.setIfInBounds l1.length y.1 = ((l1 ++ y :: l2).map Prod.fst).toArray := by
 apply Array.toList_inj.1
 simp
theorem pair_set {α : Type} {R : α → α → Prop} {l1 l2 : List α} {x y : α} (h : (l1 ++ x :: l2).Pairwise R) (h1 : ∀ a ∈ l1, R a x → R a y) (h2 : ∀ b ∈ l2, R x b → R y b) : (l1 ++ y :: l2).Pairwise R := by
 rw [List.pairwise_append, List.pairwise_cons] at h ⊢
 refine ⟨h.1, ⟨fun b hb => h2 b hb (h.2.1.1 b hb), h.2.1.2⟩, fun a ha b hb => ?_⟩
 rcases List.mem_cons.1 hb with rfl | hb
 ·exact h1 a ha (h.2.2 a ha x List.mem_cons_self)
 ·exact h.2.2 a ha b (List.mem_cons_of_mem _ hb)
theorem pair_mid {α : Type} {R : α → α → Prop} {l1 l2 : List α} {x : α} (h : (l1 ++ x :: l2).Pairwise R) : (∀ a ∈ l1, R a x) ∧ ∀ b ∈ l2, R x b := by
 rw [List.pairwise_append, List.pairwise_cons] at h
 exact ⟨fun a ha => h.2.2 a ha x List.mem_cons_self, h.2.1.1⟩
theorem RL.app {B0 r : Nat} {l1 l2 : List (Value × List Nat)} {v v' : Value} {xs ys : List Nat} {out : Nat → Prop} {w w2 : World} (h : RL B0 r (l1 ++ (v, xs) :: l2) out w) (hG : w.grownBy w2 v.ownBlock) (hO : w2.ownsRow B0 3 1 v' (xs.length + ys.length) (unV xs ++ unV ys)) (hb : v'.ownBlock = v.ownBlock ∨ v'.ownBlock = some w.heap.size) (hout : ∀ j, out j → j < w.heap.size) :
  RL B0 r (l1 ++ (v', xs ++ ys) :: l2) out (w2.setCell ⟨r, l1.length, none⟩ v') := by
 have hv := h.own (v, xs) (by simp)
 have hrl := (Array.getElem?_eq_some_iff.1 h.row).1
 have hrv : some r ≠ v.ownBlock := fun e => by
  obtain ⟨cur, hcur⟩ := own_type hv r e.symm
  exact row_ne h.row hcur (by decide) rfl
 have hr2 : w2.heap[r]? = _ := (hG.block r hrl hrv).trans h.row
 have hset : ∀ {B : Nat} {u : Value} {n : Nat} {zs : List Value}, w2.ownsRow B 3 1 u n zs → (w2.setCell ⟨r, l1.length, none⟩ v').ownsRow B 3 1 u n zs := fun hu => own_kept hu (fun y hy => by
  obtain ⟨cur, hcur⟩ := own_type hu y hy
  exact set_other _ _ _ _ _ (row_ne hcur hr2 (by decide)))
 obtain ⟨p1, p2⟩ := pair_mid h.apt
 refine ⟨?_, fun x hx => ?_, pair_set h.apt (fun a ha hR => ?_) (fun b hb' hR => ?_), fun x hx j hj => ?_⟩
 ·rw [set_heap _ _ _ _ _ _ _ hr2]
  have := set_mid l1 l2 (v, xs) (v', xs ++ ys)
  rw [this]
 ·rcases List.mem_append.1 hx with hx | hx
  ·exact hset ((h.own x (by simp [hx])).kept hG (p1 x hx).symm.ne)
  ·rcases List.mem_cons.1 hx with rfl | hx
   ·refine hset ?_
    rw [unV_app, List.length_append]
    exact hO
   ·exact hset ((h.own x (by simp [hx])).kept hG (p2 x hx).ne)
 ·exact (Apt.step hR.symm (h.own a (by simp [ha])) hb).symm
 ·exact Apt.step hR (h.own b (by simp [hb'])) hb
 ·rcases List.mem_append.1 hx with hx | hx
  ·exact h.far x (by simp [hx]) j hj
  ·rcases List.mem_cons.1 hx with rfl | hx
   ·rcases hb with e | e
    ·exact h.far (v, xs) (by simp) j (by rw [← e]; exact hj)
    ·intro ho
     have := hout j ho
     rw [e] at hj
     cases hj
     omega
   ·exact h.far x (by simp [hx]) j hj
theorem RL.kept {B0 r : Nat} {L : List (Value × List Nat)} {out out' : Nat → Prop} {w w' : World} (h : RL B0 r L out w) (ho : ∀ (j : Nat) (cs : Array Value) (t : TypeId), t = 99 ∨ t = 3 → w.heap[j]? = some (.cells cs t (0, 0)) → w'.heap[j]? = some (.cells cs t (0, 0))) (hf : ∀ j, j < w.heap.size → out' j → out j) : RL B0 r L out' w' where
 row := ho _ _ _ (.inl rfl) h.row
 own := fun x hx => own_kept' (h.own x hx) (fun j cs _ hj => ho j cs 3 (.inr rfl) hj)
 apt := h.apt
 far := fun x hx j hj ho' => h.far x hx j hj (hf j (own_lt (h.own x hx) j hj) ho')
theorem RL.below {B0 r : Nat} {L : List (Value × List Nat)} {out : Nat → Prop} {w w' : World} (h : RL B0 r L out w) (hb : Below w.heap.size w w') : RL B0 r L out w' :=
 h.kept (fun j _ _ _ hj => (hb.block j (Array.getElem?_eq_some_iff.1 hj).1).trans hj) (fun _ _ h => h)
def outV (un : Value) (bd : Nat → Value) (dn : Nat → Bool) (ns j : Nat) : Prop := un.ownBlock = some j ∨ ∃ s, s < ns ∧ dn s = true ∧ (bd s).ownBlock = some j
theorem VS.outs {kt : Nat → Int} {B k g p q f : Nat} {T : TT} {un : Value} {ul : List Nat} {rd : Nat → Bool} {bl : Nat → ByteArray} {dn : Nat → Bool} {zs : Nat → Nat} {bd : Nat → Value} {w : World} (h : VS kt B k g p q f T un ul rd bl dn zs bd w) (j : Nat) (hj : outV un bd dn T.L.ns j) : j < w.heap.size := by
 rcases hj with e | ⟨s, hs, hd, e⟩
 ·exact own_lt h.unO j e
 ·exact own_lt (h.fn s hs hd).2 j e
theorem VS.grown {kt : Nat → Int} {B k g p q f : Nat} {T : TT} {un : Value} {ul : List Nat} {rd : Nat → Bool} {bl : Nat → ByteArray} {dn : Nat → Bool} {zs : Nat → Nat} {bd : Nat → Value} {w w2 : World} {B0 r i : Nat} {l1 l2 : List (Value × List Nat)} {v v' : Value} {xs : List Nat} (h : VS kt B k g p q f T un ul rd bl dn zs bd w) (hR : RL B0 r (l1 ++ (v, xs) :: l2) (outV un bd dn T.L.ns) w) (hG : w.grownBy w2 v.ownBlock) : VS kt B k g p q f T un ul rd bl dn zs bd (w2.setCell ⟨r, i, none⟩ v') := by
 have hv := hR.own (v, xs) (by simp)
 have hrl := (Array.getElem?_eq_some_iff.1 hR.row).1
 refine h.kept (fun j cs t ht hj => ?_) (fun j hj => ?_)
 ·have hjr : j ≠ r := row_ne hj hR.row (by rcases ht with e | e | e | e | e | e | e <;> simp [e])
  rw [set_other _ _ _ _ _ hjr, hG.block j (Array.getElem?_eq_some_iff.1 hj).1 (fun e => by
   obtain ⟨cur, hcur⟩ := own_type hv j e.symm
   exact row_ne hj hcur (by rcases ht with e | e | e | e | e | e | e <;> simp [e]) rfl)]
  exact hj
 ·have hjl := h.outs j hj
  have hjr : j ≠ r := fun e => by
   obtain ⟨cur, hcur⟩ : ∃ cur, w.heap[j]? = some (.cells cur 3 (0, 0)) := by
    rcases hj with e' | ⟨s, hs, hd, e'⟩
    ·exact own_type h.unO j e'
    ·exact own_type (h.fn s hs hd).2 j e'
   exact row_ne hcur hR.row (by decide) e
  rw [set_other _ _ _ _ _ hjr, hG.block j hjl (fun e => hR.far (v, xs) (by simp) j e.symm hj)]
def abF (rd : Nat → Bool) : Nat → List Nat
 | 0 => []
 | i + 1 => if rd i = true then abF rd i else abF rd i ++ [i]
def baF (kt : Nat → Int) (T : TT) (bl : Nat → ByteArray) : Nat → List Nat
 | 0 => []
 | s + 1 => baF kt T bl s ++ stB kt T bl s
def fsF (kt : Nat → Int) (T : TT) (bl : Nat → ByteArray) (c : Nat) : Nat → List Nat
 | 0 => []
 | s + 1 => if stF kt T bl s = c then fsF kt T bl c s ++ [s] else fsF kt T bl c s
def dnS (dn : Nat → Bool) (s t : Nat) : Bool := dn t || decide (t < s)
theorem dnS_0 (dn : Nat → Bool) : dnS dn 0 = dn := by funext t; simp [dnS]
theorem dnS_step (dn : Nat → Bool) (s : Nat) : updB (dnS dn s) s true = dnS dn (s + 1) := by
 funext t
 unfold updB dnS
 by_cases e : t = s
 ·rw [if_pos e, e]; simp
 ·rw [if_neg e]
  have : decide (t < s) = decide (t < s + 1) := by
   rw [decide_eq_decide]; omega
  rw [this]
theorem abF_len (rd : Nat → Bool) : ∀ i, (abF rd i).length ≤ i
 | 0 => Nat.le_refl _
 | i + 1 => by
  have := abF_len rd i
  rw [abF]; split
  ·omega
  ·rw [List.length_append, List.length_singleton]; omega
theorem fsF_len (kt : Nat → Int) (T : TT) (bl : Nat → ByteArray) (c : Nat) : ∀ i, (fsF kt T bl c i).length ≤ i
 | 0 => Nat.le_refl _
 | i + 1 => by
  have := fsF_len kt T bl c i
  rw [fsF]; split
  ·rw [List.length_append, List.length_singleton]; omega
  ·omega
theorem baF_len (kt : Nat → Int) (T : TT) (bl : Nat → ByteArray) : ∀ s, (baF kt T bl s).length ≤ s * T.n
 | 0 => Nat.zero_le _
 | s + 1 => by
  have := baF_len kt T bl s
  have h2 : (stB kt T bl s).length ≤ T.n := badF_len _ _ _
  rw [baF, List.length_append, Nat.succ_mul]
  omega
theorem own_one (w : World) (x : Int) : (w.alloc (.cells #[.int .i64 x] 3)).ownsRow w.heap.size 3 1 (.slice (some ⟨w.heap.size, 0, none⟩) 1 1) 1 [.int .i64 x] :=
 ⟨rfl, .inr ⟨w.heap.size, 1, #[.int .i64 x], rfl, Nat.le_refl _, heap_alloc_new _ _, Nat.le_refl _, by unfold maxLen; omega, rfl, rfl⟩⟩
def repC (a b c d e : Value) : Array Value := #[a, b, c, d, e]
def nil5 : Array Value := #[.slice none 0 0, .slice none 0 0, .slice none 0 0, .slice none 0 0, .slice none 0 0]
structure VR (kt : Nat → Int) (B k g p q f : Nat) (T : TT) (un : Value) (ul : List Nat) (rd : Nat → Bool) (bl : Nat → ByteArray) (dn : Nat → Bool) (zs : Nat → Nat) (bd : Nat → Value) (w0 : World) (r0 r : Nat) (L : List (Value × List Nat)) (w : World) : Prop where
 vs : VS kt B k g p q f T un ul rd bl dn zs bd w
 rl : RL w0.heap.size r L (outV un bd dn T.L.ns) w
 r0R : w.heap[r0]? = some (.cells nil5 99 (0, 0))
 ne : r0 ≠ r
 lo : w0.heap.size ≤ r0 ∧ w0.heap.size ≤ r
 fr : Fr (fun j => j = q ∨ j = f) w0 w
theorem VR.app {kt : Nat → Int} {B k g p q f : Nat} {T : TT} {un : Value} {ul : List Nat} {rd : Nat → Bool} {bl : Nat → ByteArray} {dn : Nat → Bool} {zs : Nat → Nat} {bd : Nat → Value} {w0 : World} {r0 r : Nat} {l1 l2 : List (Value × List Nat)} {v v' : Value} {xs ys : List Nat} {w w2 : World} (h : VR kt B k g p q f T un ul rd bl dn zs bd w0 r0 r (l1 ++ (v, xs) :: l2) w)
  (hG : w.grownBy w2 v.ownBlock) (hO : w2.ownsRow w0.heap.size 3 1 v' (xs.length + ys.length) (unV xs ++ unV ys)) (hb : v'.ownBlock = v.ownBlock ∨ v'.ownBlock = some w.heap.size) :
  VR kt B k g p q f T un ul rd bl dn zs bd w0 r0 r (l1 ++ (v', xs ++ ys) :: l2) (w2.setCell ⟨r, l1.length, none⟩ v') where
 vs := h.vs.grown h.rl hG
 rl := h.rl.app hG hO hb (fun j hj => h.vs.outs j hj)
 r0R := by
  have hv := h.rl.own (v, xs) (by simp)
  rw [set_other _ _ _ _ _ h.ne, hG.block r0 (Array.getElem?_eq_some_iff.1 h.r0R).1 (fun e => by
   obtain ⟨cur, hcur⟩ := own_type hv r0 e.symm
   exact row_ne h.r0R hcur (by decide) rfl)]
  exact h.r0R
 ne := h.ne
 lo := h.lo
 fr := (h.fr.grown hG (fun y hy => .inr (own_ge (h.rl.own (v, xs) (by simp)) y hy))).set (.inr h.lo.2) _ _
theorem VR.below {kt : Nat → Int} {B k g p q f : Nat} {T : TT} {un : Value} {ul : List Nat} {rd : Nat → Bool} {bl : Nat → ByteArray} {dn : Nat → Bool} {zs : Nat → Nat} {bd : Nat → Value} {w0 : World} {r0 r : Nat} {L : List (Value × List Nat)} {w w' : World} (h : VR kt B k g p q f T un ul rd bl dn zs bd w0 r0 r L w) (hb : Below w.heap.size w w') : VR kt B k g p q f T un ul rd bl dn zs bd w0 r0 r L w' where
 vs := h.vs.below hb
 rl := h.rl.below hb
 r0R := (hb.block r0 (Array.getElem?_eq_some_iff.1 h.r0R).1).trans h.r0R
 ne := h.ne
 lo := h.lo
 fr := h.fr.thenBelow hb
theorem VR.one {kt : Nat → Int} {B k g p q f : Nat} {T : TT} {un : Value} {ul : List Nat} {rd : Nat → Bool} {bl : Nat → ByteArray} {dn : Nat → Bool} {zs : Nat → Nat} {bd : Nat → Value} {w0 : World} {r0 r : Nat} {l1 l2 : List (Value × List Nat)} {v : Value} {xs : List Nat} {w : World} (x : Nat) (h : VR kt B k g p q f T un ul rd bl dn zs bd w0 r0 r (l1 ++ (v, xs) :: l2) w) (hx : xs.length ≤ 1000000) :
  ∃ v' w2, (Builtin.append_ #[39, 39] 39 #[v, .slice (some ⟨w.heap.size, 0, none⟩) 1 1]).run Tryz.prog (w.alloc (.cells #[.int .i64 x] 3)) = .ok v' w2 ∧ VR kt B k g p q f T un ul rd bl dn zs bd w0 r0 r (l1 ++ (v', xs ++ [x]) :: l2) (w2.setCell ⟨r, l1.length, none⟩ v') ∧ w2.heap[r]? = some (.cells ((l1 ++ (v, xs) :: l2).map Prod.fst).toArray 99 (0, 0)) := by
 obtain ⟨i0, hi0, z0, z1, z2⟩ := info_parts info3
 have h1 := h.below ((Below.refl w.heap.size w).alloc (Nat.le_refl _) (.cells #[.int .i64 x] 3))
 have hv : (w.alloc (.cells #[.int .i64 x] 3)).ownsRow w0.heap.size 3 1 v xs.length (unV xs) := h1.rl.own (v, xs) (by simp)
 have hsz : w0.heap.size ≤ w.heap.size := h.fr.size
 obtain ⟨v', w2, hr, ho, hg, hb⟩ := app_rows 39 Tryz.underlying39 hi0 z0 z1 z2 rfl (by decide) hv (own_one w x) (by intro u hu; simp at hu; subst hu; rfl) (by omega) (by omega) (by simp; omega)
 refine ⟨v', w2, hr, h1.app (ys := [x]) hg ho hb, ?_⟩
 rw [hg.block r (Array.getElem?_eq_some_iff.1 h1.rl.row).1 (fun e => by
  obtain ⟨cur, hcur⟩ := own_type hv r e.symm
  exact row_ne h1.rl.row hcur (by decide) rfl)]
 exact h1.rl.row
theorem VR.more {kt : Nat → Int} {B k g p q f : Nat} {T : TT} {un : Value} {ul : List Nat} {rd : Nat → Bool} {bl : Nat → ByteArray} {dn : Nat → Bool} {zs : Nat → Nat} {bd : Nat → Value} {w0 : World} {r0 r : Nat} {l1 l2 : List (Value × List Nat)} {v : Value} {xs : List Nat} {w : World} (s : Nat) (h : VR kt B k g p q f T un ul rd bl dn zs bd w0 r0 r (l1 ++ (v, xs) :: l2) w) (hs : s < T.L.ns) (hd : dn s = true) (hx : xs.length ≤ 1000000) (hx2 : (stB kt T bl s).length ≤ 1000000) :
  ∃ v' w2, (Builtin.append_ #[39, 39] 39 #[v, bd s]).run Tryz.prog w.drew = .ok v' w2 ∧ VR kt B k g p q f T un ul rd bl dn zs bd w0 r0 r (l1 ++ (v', xs ++ stB kt T bl s) :: l2) (w2.setCell ⟨r, l1.length, none⟩ v') ∧ w2.heap[r]? = some (.cells ((l1 ++ (v, xs) :: l2).map Prod.fst).toArray 99 (0, 0)) := by
 obtain ⟨i0, hi0, z0, z1, z2⟩ := info_parts info3
 have h1 := h.below ((Below.refl w.heap.size w).drew)
 have hv : w.drew.ownsRow w0.heap.size 3 1 v xs.length (unV xs) := h1.rl.own (v, xs) (by simp)
 have hsz : w0.heap.size ≤ w.heap.size := h.fr.size
 obtain ⟨v', w2, hr, ho, hg, hb⟩ := app_rows 39 Tryz.underlying39 hi0 z0 z1 z2 rfl (by decide) hv (h1.vs.fn s hs hd).2 (unV_one _) (by omega) (by omega) (by show w0.heap.size ≤ w.heap.size; omega)
 refine ⟨v', w2, hr, h1.app hg ho hb, ?_⟩
 rw [hg.block r (Array.getElem?_eq_some_iff.1 h1.rl.row).1 (fun e => by
  obtain ⟨cur, hcur⟩ := own_type hv r e.symm
  exact row_ne h1.rl.row hcur (by decide) rfl)]
 exact h1.rl.row
theorem VR.stripe {kt : Nat → Int} {B k g p q f : Nat} {T : TT} {un : Value} {ul : List Nat} {rd : Nat → Bool} {bl : Nat → ByteArray} {dn : Nat → Bool} {zs zs' : Nat → Nat} {bd bd' : Nat → Value} {w0 : World} {r0 r s : Nat} {L : List (Value × List Nat)} {w w' : World} (h : VR kt B k g p q f T un ul rd bl dn zs bd w0 r0 r L w)
  (hv : VS kt B k g p q f T un ul rd bl (updB dn s true) zs' bd' w') (hF : Fr (fun j => j = q ∨ j = f) w w') (h1 : ∀ t, dn t = true → zs' t = zs t ∧ bd' t = bd t) (h2 : ∀ y, dn s = false → (bd' s).ownBlock = some y → w.heap.size ≤ y) : VR kt B k g p q f T un ul rd bl (updB dn s true) zs' bd' w0 r0 r L w' := by
 have hold : ∀ (j : Nat) (cs : Array Value) (t : TypeId), t = 99 ∨ t = 3 → w.heap[j]? = some (.cells cs t (0, 0)) → w'.heap[j]? = some (.cells cs t (0, 0)) := fun j cs t ht hj => by
  rw [hF.old j (Array.getElem?_eq_some_iff.1 hj).1 (fun e => by
   rcases e with e | e
   ·exact row_ne hj h.vs.blR (by rcases ht with e | e <;> simp [e]) e
   ·exact row_ne hj h.vs.fiR (by rcases ht with e | e <;> simp [e]) e)]
  exact hj
 refine ⟨hv, h.rl.kept hold (fun j hj ho => ?_), hold _ _ _ (.inl rfl) h.r0R, h.ne, h.lo, h.fr.trans' hF⟩
 rcases ho with e | ⟨t, ht, hd, e⟩
 ·exact .inl e
 ·by_cases hdt : dn t = true
  ·exact .inr ⟨t, ht, hdt, by rw [← (h1 t hdt).2]; exact e⟩
  ·have hts : t = s := by
    rcases Decidable.em (t = s) with e | e
    ·exact e
    ·unfold updB at hd; rw [if_neg e] at hd; exact absurd hd hdt
   subst hts
   have := h2 j (by simpa using hdt) e
   omega
end Go.Proofs.YtadinjaocnlglaaGreatDoor
