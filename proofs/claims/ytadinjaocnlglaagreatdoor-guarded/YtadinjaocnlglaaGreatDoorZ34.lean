/-
  What was worked out of a Stock's stripes; the walk of Stock.stripe.
  The walk of Stock.stripe.
  A row that is owned, put behind another; the walks of slices.Clone.
  The rows of a report while it is made.
  The walk of Stock.Verify.
  The walk of Stock.Verify.
  layout.Volumes where there is no block; the walk of Stock.Repair where all stripes are whole.
-/
import Derived.Test.YtadinjaocnlglaaGreatDoorZ33
import Derived.Lib.SliceRun
namespace Go.Proofs.YtadinjaocnlglaaGreatDoor
open Go.RowKit
set_option maxRecDepth 100000
set_option maxHeartbeats 4000000
def TT.n (T : TT) : Nat := T.L.K + T.L.M
def stS (T : TT) (bl : Nat → ByteArray) (s i : Nat) : ByteArray := bl (s * T.n + i)
def stH (kt : Nat → Int) (T : TT) (bl : Nat → ByteArray) (s i : Nat) : Bool := goodB kt T.L.C T.lv (s * T.n + i) (bl (s * T.n + i))
/-- the fate of a stripe: 0 whole, 1 short, 2 forged -/
def stF (kt : Nat → Int) (T : TT) (bl : Nat → ByteArray) (s : Nat) : Nat := fate kt T.L.K T.L.M T.L.C T.lv s (lenE T.L.es) (stS T bl s) (stH kt T bl s)
/-- its bad blocks -/
def stB (kt : Nat → Int) (T : TT) (bl : Nat → ByteArray) (s : Nat) : List Nat := badF (stH kt T bl s) (s * T.n) T.n
/-- its blocks, made good -/
def stM (kt : Nat → Int) (T : TT) (bl : Nat → ByteArray) (s : Nat) : Nat → ByteArray := mdT (stS T bl s) (stH kt T bl s) T.L.K T.L.M T.L.C
/-- the blocks, when some stripes were worked out -/
def blD (kt : Nat → Int) (T : TT) (bl : Nat → ByteArray) (dn : Nat → Bool) (x : Nat) : ByteArray := if dn (x / T.n) = true ∧ stF kt T bl (x / T.n) = 0 then stM kt T bl (x / T.n) (x % T.n) else bl x
theorem blD_none (kt : Nat → Int) (T : TT) (bl : Nat → ByteArray) : blD kt T bl (fun _ => false) = bl := by
  funext x; unfold blD; rw [if_neg (by simp)]
theorem div_of {s n i : Nat} (hi : i < n) : (s * n + i) / n = s ∧ (s * n + i) % n = i := by
  have hn : 0 < n := by omega
  constructor
  · rw [Nat.mul_comm, Nat.mul_add_div hn, Nat.div_eq_of_lt hi, Nat.add_zero]
  · rw [Nat.mul_comm, Nat.mul_add_mod, Nat.mod_eq_of_lt hi]
theorem blD_at {kt : Nat → Int} {T : TT} {bl : Nat → ByteArray} {dn : Nat → Bool} {s i : Nat} (hd : dn s = false) (hi : i < T.n) : blD kt T bl dn (s * T.n + i) = bl (s * T.n + i) := by
  unfold blD
  rw [(div_of hi).1, hd, if_neg (by simp)]
theorem in_stripe {x s n : Nat} (hn : 0 < n) (h : x / n = s) : s * n ≤ x ∧ x < s * n + n := by
  subst h
  have h1 := Nat.div_add_mod x n
  have h2 := Nat.mod_lt x hn
  rw [Nat.mul_comm] at h1
  omega
theorem blD_step {kt : Nat → Int} {T : TT} {bl : Nat → ByteArray} {dn : Nat → Bool} {s : Nat} (hn : 0 < T.n) (hd : dn s = false) : blD kt T bl (updB dn s true) = if stF kt T bl s = 0 then laid (blD kt T bl dn) (s * T.n) T.n (stM kt T bl s) else blD kt T bl dn := by
  funext x
  by_cases hx : x / T.n = s
  · obtain ⟨h1, h2⟩ := in_stripe hn hx
    have e1 : updB dn s true (x / T.n) = true := by unfold updB; rw [if_pos hx]
    by_cases hf : stF kt T bl s = 0
    · rw [if_pos hf]
      unfold laid
      rw [if_pos ⟨h1, h2⟩]
      unfold blD
      rw [e1, hx, if_pos ⟨rfl, hf⟩]
      congr 1
      have := (div_of (s := s) (n := T.n) (i := x - s * T.n) (by omega)).2
      rw [show s * T.n + (x - s * T.n) = x by omega] at this
      exact this
    · rw [if_neg hf]
      unfold blD
      rw [e1, hx, hd, if_neg (fun h => hf h.2), if_neg (by simp)]
  · have e1 : updB dn s true (x / T.n) = dn (x / T.n) := by unfold updB; rw [if_neg hx]
    have hnot : ¬ (s * T.n ≤ x ∧ x < s * T.n + T.n) := fun h => hx (by
      have := (div_of (s := s) (n := T.n) (i := x - s * T.n) (by omega)).1
      rw [show s * T.n + (x - s * T.n) = x by omega] at this
      exact this)
    have e2 : blD kt T bl (updB dn s true) x = blD kt T bl dn x := by unfold blD; rw [e1]
    rw [e2]
    split
    · unfold laid; rw [if_neg hnot]
    · rfl
def fiP (dn : Nat → Bool) (zs : Nat → Nat) : Nat → Value := fun s => if dn s = true then .pointer (some ⟨zs s, 0, none⟩) else .pointer none
/-- a Stock, of which some stripes were worked out -/
structure VS (kt : Nat → Int) (B k g p q f : Nat) (T : TT) (un : Value) (ul : List Nat) (rd : Nat → Bool) (bl : Nat → ByteArray) (dn : Nat → Bool) (zs : Nat → Nat) (bd : Nat → Value) (w : World) : Prop where
  row : w.heap[k]? = some (.cells (stC (.pointer (some ⟨g, 0, none⟩)) un (.slice (some ⟨p, 0, none⟩) T.L.V T.L.V) (.slice (some ⟨q, 0, none⟩) T.L.cnt T.L.cnt) (.slice (some ⟨f, 0, none⟩) T.L.ns T.L.ns)) 224 (0, 0))
  hd : Head2 B g T w
  unO : w.ownsRow B 3 1 un ul.length (unV ul)
  rdR : Rw w p T.L.V 4 (boR rd)
  blR : Rw w q T.L.cnt 9 (tX (blD kt T bl dn))
  fiR : Rw w f T.L.ns 232 (fiP dn zs)
  fn : ∀ s, s < T.L.ns → dn s = true → w.heap[zs s]? = some (.cells (fnC (bd s) (stF kt T bl s)) 231 (0, 0)) ∧ w.ownsRow B 3 1 (bd s) (stB kt T bl s).length (unV (stB kt T bl s))
theorem Head2.kept {B g : Nat} {T : TT} {w w' : World} (h : Head2 B g T w) (ho : ∀ (j : Nat) (cs : Array Value) (t : TypeId), t = 319 ∨ t = 70 → w.heap[j]? = some (.cells cs t (0, 0)) → w'.heap[j]? = some (.cells cs t (0, 0))) : Head2 B g T w' := by
  obtain ⟨aE, kE, num, first, vB, h1, h2⟩ := h
  refine ⟨aE, kE, num, first, vB, ho _ _ _ (.inl rfl) h1, own_kept h2 (fun y hy => ?_)⟩
  obtain ⟨cur, hcur⟩ := own_type h2 y hy
  rw [ho _ _ _ (.inr rfl) hcur, hcur]
theorem own_kept' {w w' : World} {base : Nat} {e : TypeId} {size : Nat} {v : Value} {n : Nat} {xs : List Value} (h : w.ownsRow base e size v n xs) (ho : ∀ (j : Nat) (cs : Array Value), v.ownBlock = some j → w.heap[j]? = some (.cells cs e (0, 0)) → w'.heap[j]? = some (.cells cs e (0, 0))) : w'.ownsRow base e size v n xs := own_kept h (fun y hy => by
  obtain ⟨cur, hcur⟩ := own_type h y hy
  rw [ho _ _ hy hcur, hcur])
/-- where nothing of the Stock is written -/
theorem VS.kept {kt : Nat → Int} {B k g p q f : Nat} {T : TT} {un : Value} {ul : List Nat} {rd : Nat → Bool} {bl : Nat → ByteArray} {dn : Nat → Bool} {zs : Nat → Nat} {bd : Nat → Value} {w w' : World} (h : VS kt B k g p q f T un ul rd bl dn zs bd w)
    (ho : ∀ (j : Nat) (cs : Array Value) (t : TypeId), t = 224 ∨ t = 319 ∨ t = 70 ∨ t = 4 ∨ t = 9 ∨ t = 232 ∨ t = 231 → w.heap[j]? = some (.cells cs t (0, 0)) → w'.heap[j]? = some (.cells cs t (0, 0))) (h3 : ∀ j, (un.ownBlock = some j ∨ ∃ s, s < T.L.ns ∧ dn s = true ∧ (bd s).ownBlock = some j) → w'.heap[j]? = w.heap[j]?) : VS kt B k g p q f T un ul rd bl dn zs bd w' where
  row := ho _ _ _ (by simp) h.row
  hd := h.hd.kept (fun j cs t ht hj => ho j cs t (by rcases ht with e | e <;> simp [e]) hj)
  unO := own_kept h.unO (fun y hy => h3 y (.inl hy))
  rdR := ho _ _ _ (by simp) h.rdR
  blR := ho _ _ _ (by simp) h.blR
  fiR := ho _ _ _ (by simp) h.fiR
  fn := fun s hs hd => ⟨ho _ _ _ (by simp) (h.fn s hs hd).1, own_kept (h.fn s hs hd).2 (fun y hy => h3 y (.inr ⟨s, hs, hd, hy⟩))⟩
theorem VS.below {kt : Nat → Int} {B k g p q f : Nat} {T : TT} {un : Value} {ul : List Nat} {rd : Nat → Bool} {bl : Nat → ByteArray} {dn : Nat → Bool} {zs : Nat → Nat} {bd : Nat → Value} {w w' : World} (h : VS kt B k g p q f T un ul rd bl dn zs bd w) (hb : Below w.heap.size w w') : VS kt B k g p q f T un ul rd bl dn zs bd w' :=
  h.kept (fun j cs t _ hj => (hb.block j (Array.getElem?_eq_some_iff.1 hj).1).trans hj) (fun j hj => by
    rcases hj with e | ⟨s, hs, hd, e⟩
    · exact hb.block j (own_lt h.unO j e)
    · exact hb.block j (own_lt (h.fn s hs hd).2 j e))
theorem VS.hb {kt : Nat → Int} {B k g p q f : Nat} {T : TT} {un : Value} {ul : List Nat} {rd : Nat → Bool} {bl : Nat → ByteArray} {dn : Nat → Bool} {zs : Nat → Nat} {bd : Nat → Value} {w : World} (h : VS kt B k g p q f T un ul rd bl dn zs bd w) : HB B k g q T.L.cnt T (blD kt T bl dn) w :=
  ⟨cell_of_row _ _ _ _ 224 _ h.row, cell_of_row _ _ _ _ 224 _ h.row, h.hd, h.blR⟩
/-- the Stock behind workOut and the store of its finding -/
theorem VS.worked {kt : Nat → Int} {B k g p q f : Nat} {T : TT} {un : Value} {ul : List Nat} {rd : Nat → Bool} {bl : Nat → ByteArray} {dn : Nat → Bool} {zs : Nat → Nat} {bd : Nat → Value} {w w1 : World} {s z : Nat} {bv : Value} (h : VS kt B k g p q f T un ul rd bl dn zs bd w) (hn : 0 < T.n) (hs : s < T.L.ns) (hdn : dn s = false) (hB : B ≤ w.heap.size)
    (hz : w.heap.size ≤ z) (hzr : w1.heap[z]? = some (.cells (fnC bv (stF kt T bl s)) 231 (0, 0))) (hbv : w1.ownsRow w.heap.size 3 1 bv (stB kt T bl s).length (unV (stB kt T bl s))) (hq : Rw w1 q T.L.cnt 9 (tX (if stF kt T bl s = 0 then laid (blD kt T bl dn) (s * T.n) T.n (stM kt T bl s) else blD kt T bl dn))) (hF : Fr (fun j => j = q) w w1) :
    VS kt B k g p q f T un ul rd bl (updB dn s true) (fun t => if t = s then z else zs t) (fun t => if t = s then bv else bd t) (w1.setCell ⟨f, s, none⟩ (.pointer (some ⟨z, 0, none⟩))) := by
  have hqR : w.heap[q]? = _ := h.blR
  have hfR : w.heap[f]? = _ := h.fiR
  have hfq : f ≠ q := row_ne hfR hqR (by decide)
  have hf1 : w1.heap[f]? = _ := (hF.old f (Array.getElem?_eq_some_iff.1 hfR).1 hfq).trans hfR
  have hold : ∀ (j : Nat) (cs : Array Value) (t : TypeId), t ≠ 9 → t ≠ 232 → w.heap[j]? = some (.cells cs t (0, 0)) → (w1.setCell ⟨f, s, none⟩ (.pointer (some ⟨z, 0, none⟩))).heap[j]? = some (.cells cs t (0, 0)) := fun j cs t h9 h232 hj => by
    rw [set_other _ _ _ _ _ (row_ne hj hfR h232), hF.old j (Array.getElem?_eq_some_iff.1 hj).1 (row_ne hj hqR h9)]
    exact hj
  have hfl := (Array.getElem?_eq_some_iff.1 hfR).1
  refine ⟨hold _ _ _ (by decide) (by decide) h.row, h.hd.kept (fun j cs t ht hj => hold j cs t (by rcases ht with e | e <;> simp [e]) (by rcases ht with e | e <;> simp [e]) hj), own_kept' h.unO (fun j cs _ hj => hold j cs 3 (by decide) (by decide) hj), hold _ _ _ (by decide) (by decide) h.rdR, ?_, ?_, fun t ht hd => ?_⟩
  · rw [blD_step hn hdn]
    show (w1.setCell ⟨f, s, none⟩ (.pointer (some ⟨z, 0, none⟩))).heap[q]? = _
    rw [set_other _ _ _ _ _ hfq.symm]
    exact hq
  · have : Rw w1 f T.L.ns 232 (fiP dn zs) := hf1
    refine (this.put s (.pointer (some ⟨z, 0, none⟩))).to (fun j _ => ?_)
    unfold updV fiP updB
    by_cases e : j = s
    · simp [e]
    · simp [e]
  · by_cases e : t = s
    · subst e
      rw [if_pos rfl, if_pos rfl]
      refine ⟨?_, own_base (own_kept hbv (fun y hy => set_other _ _ _ _ _ (by have := own_ge hbv y hy; omega))) hB⟩
      rw [set_other _ _ _ _ _ (by omega)]
      exact hzr
    · have hd' : dn t = true := by unfold updB at hd; rw [if_neg e] at hd; exact hd
      rw [if_neg e, if_neg e]
      exact ⟨hold _ _ _ (by decide) (by decide) (h.fn t ht hd').1, own_kept' (h.fn t ht hd').2 (fun j cs _ hj => hold j cs 3 (by decide) (by decide) hj)⟩
theorem updB_same {dn : Nat → Bool} {s : Nat} (h : dn s = true) : updB dn s true = dn := by
  funext t; unfold updB
  by_cases e : t = s
  · rw [if_pos e, e, h]
  · rw [if_neg e]
end Go.Proofs.YtadinjaocnlglaaGreatDoor
namespace Go.Proofs.YtadinjaocnlglaaGreatDoor
open Go.RowKit
set_option maxRecDepth 100000
set_option maxHeartbeats 4000000
/-- what stripe has done -/
def SDid (kt : Nat → Int) (B k g p q f : Nat) (T : TT) (un : Value) (ul : List Nat) (rd : Nat → Bool) (bl : Nat → ByteArray) (dn : Nat → Bool) (zs : Nat → Nat) (bd : Nat → Value) (s : Nat) (w : World) (e : Ending) (w' : World) : Prop :=
  ∃ (zs' : Nat → Nat) (bd' : Nat → Value), e = .returned (.pointer (some ⟨zs' s, 0, none⟩)) ∧ VS kt B k g p q f T un ul rd bl (updB dn s true) zs' bd' w' ∧ Fr (fun j => j = q ∨ j = f) w w' ∧ (∀ t, dn t = true → zs' t = zs t ∧ bd' t = bd t) ∧ (∀ y, dn s = false → (bd' s).ownBlock = some y → w.heap.size ≤ y)
theorem stripe_any (kt : Nat → Int) (B k g p q f s : Nat) (T : TT) (un : Value) (ul : List Nat) (rd : Nat → Bool) (bl : Nat → ByteArray) (dn : Nat → Bool) (zs : Nat → Nat) (bd : Nat → Value) (w : World) (h : VS kt B k g p q f T un ul rd bl dn zs bd w) (hT : Told1 T) (hle : T.L.es.length ≤ 16 ∧ lenE T.L.es ≤ 4096) (hG : Gd kt w) (hB : B ≤ w.heap.size) (hs : s < T.L.ns) :
    Calls Tryz.prog 123 #[.pointer (some ⟨k, 0, none⟩), .int .i64 s] w fun e w' => SDid kt B k g p q f T un ul rd bl dn zs bd s w e w' := by
  have H : Hid _ := h
  have a4 : w.cell? ⟨k, 4, none⟩ = some (.slice (some ⟨f, 0, none⟩) T.L.ns T.L.ns) := cell_of_row _ _ _ _ 224 _ h.row
  have f1 := h.fiR.cell s hs
  have f2 := h.fiR.free s
  obtain ⟨ns, hns⟩ : ∃ x, T.L.ns = x := ⟨_, rfl⟩
  have hs1 : s < ns := by omega
  have hsn : (s : Int) < (ns : Int) := by omega
  cases hd : dn s with
  | true =>
    have e1 : fiP dn zs s = .pointer (some ⟨zs s, 0, none⟩) := by unfold fiP; rw [if_pos hd]
    rw [e1] at f1
    rw [hns] at a4
    have HD : Hid _ := hd
    clear h hd e1 hG hT
    go_enter Tryz.func123, Tryz.ntmps123
    go_wp2_with fail
    go_ret
    exact ⟨zs, bd, rfl, by rw [updB_same HD.out]; exact H.out, Fr.refl _ _, fun t _ => ⟨rfl, rfl⟩, fun y hy => by rw [HD.out] at hy; cases hy⟩
  | false =>
    have e1 : fiP dn zs s = .pointer none := by unfold fiP; rw [hd]; rfl
    rw [e1] at f1
    have hn0 : 0 < T.n := by have := hT.k1; unfold TT.n; omega
    have HW : Hid (∀ X : World, Below w.heap.size w X → Calls Tryz.prog 179 #[.pointer (some ⟨k, 0, none⟩), .int .i64 s] X fun e w' => WDid q T.L.cnt (blD kt T bl dn) (s * T.n) T.n (stF kt T bl s) (stB kt T bl s) (stM kt T bl s) X e w') := fun X hX =>
      workOut_any kt B k g q T.L.cnt s T.n (s * T.n) T (blD kt T bl dn) (stS T bl s) (stH kt T bl s) X (h.below hX).hb hT hle (hG.below hX) rfl hs rfl rfl (fun i hi => blD_at hd hi) (fun i hi => rfl)
    have HD : Hid _ := hd
    have HN : Hid _ := hn0
    rw [hns] at a4
    have HQ : Hid (∀ X : World, Fr (fun j => j = q) w X → X.cell? ⟨k, 4, none⟩ = some (.slice (some ⟨f, 0, none⟩) ns ns) ∧ X.cell? ⟨f, s, none⟩ = some (.pointer none) ∧ X.frozen? ⟨f, s, none⟩ = false) := fun X hX => by
      have r1 := (hX.old k (Array.getElem?_eq_some_iff.1 h.row).1 (row_ne h.row h.blR (by decide))).trans h.row
      have r2 : Rw X f T.L.ns 232 (fiP dn zs) := (hX.old f (Array.getElem?_eq_some_iff.1 h.fiR).1 (row_ne h.fiR h.blR (by decide))).trans h.fiR
      refine ⟨by rw [← hns]; exact cell_of_row _ _ _ _ 224 _ r1, ?_, r2.free s⟩
      rw [r2.cell s hs, e1]
    have hkf : k ≠ f := row_ne h.row h.fiR (by decide)
    have HKK : Hid (∀ (X : World) (v : Value), X.cell? ⟨k, 4, none⟩ = some (.slice (some ⟨f, 0, none⟩) ns ns) → (X.setCell ⟨f, s, none⟩ v).cell? ⟨k, 4, none⟩ = some (.slice (some ⟨f, 0, none⟩) ns ns)) := fun X v hX => (World.cell?_of_block (a := ⟨k, 4, none⟩) (set_other X f s k v hkf)).trans hX
    clear h hd e1 hG hT hn0
    go_enter Tryz.func123, Tryz.ntmps123
    go_wp2_with fail
    go_region_held3 (fun w2 => w2.cell? ⟨k, 4, none⟩ = some (.slice (some ⟨f, 0, none⟩) ns ns)) (first | go_keep | exact HKK.out w1 _ q4) ((go_at_call 179; refine Calls.mono (HW.out _ (by first | exact Below.refl _ _ | exact (Below.refl _ _).drew)) ?_; rintro e w1 ⟨z, bv, rfl, hz, hzr, hbv, hq, hF⟩; have hF1 : Fr (fun j => j = q) w w1 := (by first | exact hF | exact (Fr.drew (Fr.refl _ w)).trans' hF); have hz1 : w.heap.size ≤ z := hz; have hbv1 : w1.ownsRow w.heap.size 3 1 bv (stB kt T bl s).length (unV (stB kt T bl s)) := hbv; obtain ⟨q4, q5, q6⟩ := HQ.out w1 hF1))
    have HV : Hid _ := H.out.worked HN.out hs HD.out hB hz1 hzr hbv1 hq hF1
    have HF : Hid (Fr (fun j => j = q ∨ j = f) w (w1.setCell ⟨f, s, none⟩ (.pointer (some ⟨z, 0, none⟩)))) := (hF1.mono (fun j _ hj => .inl hj)).set (.inl (.inr rfl)) _ _
    have HBV : Hid _ := hbv1
    have y4 := HKK.out w1 (.pointer (some ⟨z, 0, none⟩)) q4
    have y5 : (w1.setCell ⟨f, s, none⟩ (.pointer (some ⟨z, 0, none⟩))).cell? ⟨f, s, none⟩ = some (.pointer (some ⟨z, 0, none⟩)) := by
      have := HV.out.fiR.cell s hs
      rw [this]
      simp [fiP, updB]
    obtain ⟨Y, hY⟩ : ∃ Y, w1.setCell ⟨f, s, none⟩ (.pointer (some ⟨z, 0, none⟩)) = Y := ⟨_, rfl⟩
    rw [hY] at HV HF y4 y5 ⊢
    clear hY hz hzr hbv hq hF hF1 hbv1 q4 q5 q6 hz1 a4 f1 f2
    go_wp2_with fail
    go_ret
    exact ⟨_, _, (by rw [if_pos rfl]; rfl), HV.out, HF.out, fun t ht => (by
      have e : t ≠ s := fun e => by rw [e, HD.out] at ht; cases ht
      rw [if_neg e, if_neg e]; exact ⟨rfl, rfl⟩), fun y _ hy => (by rw [if_pos rfl] at hy; exact own_ge HBV.out y hy)⟩
end Go.Proofs.YtadinjaocnlglaaGreatDoor
namespace Go.Proofs.YtadinjaocnlglaaGreatDoor
open Go.RowKit
set_option maxRecDepth 100000
set_option maxHeartbeats 1000000
theorem app_rows {w : World} {B B' : Nat} {t e : TypeId} {i : TypeInfo} {z : Value} {size bytes : Nat} (ty : TypeId) (ht : Tryz.prog.underlying t = some (.slice e)) (hi : Tryz.prog.info? e = some i) (hz : i.zero = some z) (hs : i.size = size) (hb : i.bytes = bytes) (hzs : z.cells.size = size) (hs0 : 0 < size)
    {v u : Value} {n m : Nat} {xs ys : List Value} (hv : w.ownsRow B e size v n xs) (hu : w.ownsRow B' e size u m ys) (h1 : ∀ u ∈ ys, u.oneCell' = true) (hn : (n + m) * bytes ≤ 140737488355328) (hn2 : n + m ≤ 100000000000000) (hB : B ≤ w.heap.size) :
    ∃ v' w', (Builtin.append_ #[t, t] ty #[v, u]).run Tryz.prog w = .ok v' w' ∧ w'.ownsRow B e size v' (n + m) (xs ++ ys) ∧ w.grownBy w' v.ownBlock ∧ (v'.ownBlock = v.ownBlock ∨ v'.ownBlock = some w.heap.size) := by
  rcases hu.2 with ⟨rfl, rfl⟩ | ⟨g, cap, cur, rfl, _⟩
  · have hy : ys = [] := List.length_eq_zero_iff.1 (by have := hu.1; omega)
    rw [hy, List.append_nil, Nat.add_zero]
    exact ⟨v, w, run_append_owned_none _ B t ty e i size ht hi v n xs hv, hv, ⟨rfl, rfl, rfl, Nat.le_refl _, fun _ _ _ => rfl⟩, .inl rfl⟩
  · obtain ⟨v', w', h2, h3, h4, _, h5⟩ := run_append_own_at (P := Tryz.prog) w B t ty e i z size bytes ht hi hz hs hb hzs hs0 v n xs hv ⟨g, 0, none⟩ m cap ys hu.1 (hu.cells rfl) h1 (by unfold maxLen; omega) hn hB
    exact ⟨v', w', h2, h3, h4, h5⟩
theorem step_app {ops : Array Oper} {o : Oper} {a : Act} {w : World} {K : Act → World → Prop} {Q : Exit → Act → World → Prop} {E : Prop} (hg : o.guard = none) (x y : Operand) (t : TypeId) (hop : o.op = .call { callee := .builtin .append, args := #[x, y], argTypes := #[t, t] })
    (u v r : Value) (hu : a.eval x = u) (hv : a.eval y = v) (w' : World) (hr : (Builtin.append_ #[t, t] o.type #[u, v]).run Tryz.prog w = .ok r w') (hK : K (a.put o.dst r) w') : if Region.wanted o (yielded ops a.tmps) = true then Oper.wp Tryz.prog o a w K Q else E := by
  rw [if_pos (show Region.wanted o (yielded ops a.tmps) = true by simp [Region.wanted, hg])]
  unfold Oper.wp
  simp [execOp, hop, resolve, invoke, builtin, hu, hv, hr, Result.andThen]
  exact hK
theorem wpList_app {ops : Array Oper} {rest : List Oper} {o : Oper} {a : Act} {w : World} {Q : Exit → Act → World → Prop} (hgd : o.guard = none) (x y : Operand) (t : TypeId)
    (ho : o.op = .call { callee := .builtin .append, args := #[x, y], argTypes := #[t, t] }) (u v r : Value) (hu : a.eval x = u) (hv : a.eval y = v) (w' : World) (hr : (Builtin.append_ #[t, t] o.type #[u, v]).run Tryz.prog w = .ok r w') (h : wpList Tryz.prog ops Q rest (a.put o.dst r) w') :
    wpList Tryz.prog ops Q (o :: rest) a w := by
  refine wpList_plain hgd fun K hK => ?_
  unfold Oper.wp execOp
  simp only [ho, resolve, invoke, builtin, Sem.run_bind, Sem.run_pure, Result.andThen_ok, List.map_toArray, List.map_cons, List.map_nil, hu, hv, hr]
  exact hK _ _ h
end Go.Proofs.YtadinjaocnlglaaGreatDoor
namespace Go.Proofs.YtadinjaocnlglaaGreatDoor
open Go.RowKit
set_option maxRecDepth 100000
set_option maxHeartbeats 1000000
end Go.Proofs.YtadinjaocnlglaaGreatDoor
namespace Go.Proofs.YtadinjaocnlglaaGreatDoor
open Go.RowKit
set_option maxRecDepth 100000
set_option maxHeartbeats 4000000
/-- the numbers that were not read -/
def abF (rd : Nat → Bool) : Nat → List Nat
  | 0 => []
  | i + 1 => if rd i = true then abF rd i else abF rd i ++ [i]
/-- the bad blocks of the first stripes -/
def baF (kt : Nat → Int) (T : TT) (bl : Nat → ByteArray) : Nat → List Nat
  | 0 => []
  | s + 1 => baF kt T bl s ++ stB kt T bl s
/-- the stripes with that fate among the first -/
def fsF (kt : Nat → Int) (T : TT) (bl : Nat → ByteArray) (c : Nat) : Nat → List Nat
  | 0 => []
  | s + 1 => if stF kt T bl s = c then fsF kt T bl c s ++ [s] else fsF kt T bl c s
end Go.Proofs.YtadinjaocnlglaaGreatDoor
namespace Go.Proofs.YtadinjaocnlglaaGreatDoor
open Go.RowKit
set_option maxRecDepth 100000
set_option maxHeartbeats 8000000
theorem Gd.ne {kt : Nat → Int} {w : World} {j n : Nat} {t : TypeId} {F : Nat → Value} (h : Gd kt w) (hr : Rw w j n t F) (hF : ∀ i x, F i ≠ .int .u32 x) : j ≠ 2 := fun e => by
  subst e
  have h0 := h.tab 0 (by omega)
  rcases Nat.eq_zero_or_pos n with hn | hn
  · subst hn
    have hr' : w.heap[2]? = some (.cells (rowV 0 F) t (0, 0)) := hr
    have : rowV 0 F = #[] := Array.eq_empty_of_size_eq_zero (rowV_size 0 F)
    rw [this] at hr'
    simp [World.cell?, hr'] at h0
  · rw [hr.cell 0 hn] at h0
    exact hF 0 _ (Option.some.inj h0)
theorem Gd.fr {kt : Nat → Int} {w w' : World} {S : Nat → Prop} (h : Gd kt w) (hF : Fr S w w') (hS : ¬ S 2) : Gd kt w' :=
  ⟨fun k hk => (hF.cell (g := 2) (by have := h.one; omega) hS k).trans (h.tab k hk), Nat.le_trans h.one hF.size⟩
theorem VS.gd {kt : Nat → Int} {B k g p q f : Nat} {T : TT} {un : Value} {ul : List Nat} {rd : Nat → Bool} {bl : Nat → ByteArray} {dn : Nat → Bool} {zs : Nat → Nat} {bd : Nat → Value} {w w' : World} (h : VS kt B k g p q f T un ul rd bl dn zs bd w) (hG : Gd kt w) (hF : Fr (fun j => j = q ∨ j = f) w w') : Gd kt w' :=
  hG.fr hF (fun e => by
    rcases e with e | e
    · exact hG.ne h.blR (fun i x => by unfold tX; simp) e.symm
    · exact hG.ne h.fiR (fun i x => by unfold fiP; split <;> simp) e.symm)
end Go.Proofs.YtadinjaocnlglaaGreatDoor
namespace Go.Proofs.YtadinjaocnlglaaGreatDoor
open Go.RowKit
set_option maxRecDepth 100000
set_option maxHeartbeats 2000000
end Go.Proofs.YtadinjaocnlglaaGreatDoor
