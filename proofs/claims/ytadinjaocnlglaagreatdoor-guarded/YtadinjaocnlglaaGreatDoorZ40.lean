/-
  Close of the document's Writer, where it is refused.
  A desk: is an error the document's; Writers newly made.
  A desk's new Writer.
  A desk's new Writer, where nothing is refused.
  The document's sorted: the order, as data.
  The document's sorted.
  The document's volumes.
  The walks of vaultref's mul, inverse.
  Plain: the weights of the document's answer are those of Lagrange's sum; the walk of vaultref's shares.
  The walk of vaultref's value.
  The document's answer to Parity.
  The document's laid.
  Close of the document's Writer.
  A desk: Close on both sides.
  The document's Head in the memory while a volume is read.
-/
import Derived.Test.YtadinjaocnlglaaGreatDoorZ39
import Derived.Test.YtadinjaocnlglaaGreatDoorZ18
import Derived.Sort.Walk0
import Derived.BigQuiet
import Derived.BigRegion
import Derived.Deep.RegionLaw
import Derived.Test.YtadinjaocnlglaaGreatDoorZ09
import Derived.Test.YtadinjaocnlglaaGreatDoorZ19
import Derived.Laws.OwnMore
import Derived.Test.YtadinjaocnlglaaGreatDoorZ02
import Derived.WalkKit
import Derived.WalkSpells
import Derived.WalkLawsBesides
import Derived.Test.YtadinjaocnlglaaGreatDoorZ24
import Derived.Test.YtadinjaocnlglaaGreatDoorZ04
import Derived.Test.YtadinjaocnlglaaGreatDoorZ07
import Derived.Test.YtadinjaocnlglaaGreatDoorZ16
import Derived.Deep.CutRange
import Derived.Test.YtadinjaocnlglaaGreatDoorZ28
namespace Go.Proofs.YtadinjaocnlglaaGreatDoor
open Go.RowKit
set_option maxRecDepth 100000
set_option maxHeartbeats 4000000
end Go.Proofs.YtadinjaocnlglaaGreatDoor
namespace Go.Proofs.YtadinjaocnlglaaGreatDoor
open Go.RowKit Go.Maps
set_option maxRecDepth 100000
set_option maxHeartbeats 4000000
end Go.Proofs.YtadinjaocnlglaaGreatDoor
namespace Go.Proofs.YtadinjaocnlglaaGreatDoor
open Go.RowKit Go.Maps
set_option maxRecDepth 100000
set_option maxHeartbeats 4000000
end Go.Proofs.YtadinjaocnlglaaGreatDoor
namespace Go.Proofs.YtadinjaocnlglaaGreatDoor
open Go.RowKit Go.Maps
set_option maxRecDepth 100000
set_option maxHeartbeats 4000000
end Go.Proofs.YtadinjaocnlglaaGreatDoor
namespace Go.Proofs.YtadinjaocnlglaaGreatDoor
open Go.RowKit
set_option maxRecDepth 100000
set_option maxHeartbeats 1000000
end Go.Proofs.YtadinjaocnlglaaGreatDoor
namespace Go.Proofs.YtadinjaocnlglaaGreatDoor
open Go.RowKit
set_option maxRecDepth 100000
set_option maxHeartbeats 4000000
end Go.Proofs.YtadinjaocnlglaaGreatDoor
namespace Go.Proofs.YtadinjaocnlglaaGreatDoor
open Go.RowKit
set_option maxRecDepth 100000
set_option maxHeartbeats 4000000
theorem rooted_own (kt : Nat → Int) (l : ByteArray) (L : Nat → ByteArray) (n B : Nat) (v : Value) (w : World) (hl : l.size ≤ 1000000000) (hG : Gr kt w) (hL : ∀ i, i < n → (L i).size ≤ 32) (ho : w.ownsRow B 9 1 v n (txV L n)) :
    Calls Tryz.prog 86 #[.string l, v] w fun e w' => e = .returned (.string (⟨#[2]⟩ ++ l ++ topT (ofT kt) n L)) ∧ Below w.heap.size w w' := by
  refine rooted_any kt l L n v w hl hG hL ?_
  rcases ho.2 with ⟨h1, h2⟩ | ⟨g, cap, cur, hv, hb, hh, hnc, hcm, _⟩
  · exact .inl ⟨h1, h2⟩
  · refine .inr ⟨g, cap, hv, hnc, by unfold maxLen at hcm; omega, (Array.getElem?_eq_some_iff.1 hh).1, fun i hi => ?_⟩
    subst hv
    have h1 := ho.cellAt i (by omega)
    rw [Nat.zero_add]
    refine h1.trans ?_
    simp [txV, tI, hi]
end Go.Proofs.YtadinjaocnlglaaGreatDoor
namespace Go.Proofs.YtadinjaocnlglaaGreatDoor
open Go.RowKit
set_option maxRecDepth 100000
end Go.Proofs.YtadinjaocnlglaaGreatDoor
namespace Go.Proofs.YtadinjaocnlglaaGreatDoor
open Go.RowKit
set_option maxRecDepth 100000
namespace Fld
variable {F : Type} (K : Fld F)
end Fld
end Go.Proofs.YtadinjaocnlglaaGreatDoor
namespace Go.Proofs.YtadinjaocnlglaaGreatDoor
open Go.RowKit
set_option maxRecDepth 100000
end Go.Proofs.YtadinjaocnlglaaGreatDoor
namespace Go.Proofs.YtadinjaocnlglaaGreatDoor
open Go.RowKit
set_option maxRecDepth 100000
set_option maxHeartbeats 4000000
end Go.Proofs.YtadinjaocnlglaaGreatDoor
namespace Go.Proofs.YtadinjaocnlglaaGreatDoor
open Go.RowKit
set_option maxRecDepth 100000
set_option maxHeartbeats 4000000
end Go.Proofs.YtadinjaocnlglaaGreatDoor
namespace Go.Proofs.YtadinjaocnlglaaGreatDoor
open Go.RowKit
set_option maxRecDepth 100000
set_option maxHeartbeats 4000000
end Go.Proofs.YtadinjaocnlglaaGreatDoor
namespace Go.Proofs.YtadinjaocnlglaaGreatDoor
open Go.RowKit Go.Maps
set_option maxRecDepth 100000
set_option maxHeartbeats 4000000
theorem Fr.low {S : Nat → Prop} {base : Nat} {w w' : World} (h : Fr S w w') (hS : ∀ j, S j → base ≤ j) (hb : base ≤ w.heap.size) : Below base w w' :=
  ⟨h.calm.1, h.calm.2.1, h.calm.2.2, h.size, fun k hk => h.old k (by omega) (fun hs => by have := hS k hs; omega)⟩
end Go.Proofs.YtadinjaocnlglaaGreatDoor
namespace Go.Proofs.YtadinjaocnlglaaGreatDoor
open Go.RowKit
set_option maxRecDepth 100000
set_option maxHeartbeats 4000000
/-- a text behind a list that a struct holds -/
theorem fld_appT {w : World} {B r k n : Nat} {ty : TypeId} {cs : Array Value} {v : Value} {H : Nat → ByteArray} (x : ByteArray) (hr : w.heap[r]? = some (.cells cs ty (0, 0))) (hty : ty ≠ 9) (ho : w.ownsRow B 9 1 v n (tV H n)) (hB : B ≤ w.heap.size) (hx : n ≤ 1000000) (hH : H n = x) :
    ∃ v' w2, (Builtin.append_ #[42, 42] 42 #[v, .slice (some ⟨w.heap.size, 0, none⟩) 1 1]).run Tryz.prog (w.alloc (.cells #[.string x] 9)) = .ok v' w2 ∧ (w2.setCell ⟨r, k, none⟩ v').ownsRow B 9 1 v' (n + 1) (tV H (n + 1)) ∧ w2.heap[r]? = some (.cells cs ty (0, 0)) ∧ (w2.setCell ⟨r, k, none⟩ v').heap[r]? = some (.cells (cs.setIfInBounds k v') ty (0, 0))
      ∧ (∀ j, j < w.heap.size → j ≠ r → v.ownBlock ≠ some j → (w2.setCell ⟨r, k, none⟩ v').heap[j]? = w.heap[j]?) ∧ (v'.ownBlock = v.ownBlock ∨ v'.ownBlock = some (w.heap.size + 1)) ∧ (B ≤ r → ∀ w0, Below B w0 w → Below B w0 (w2.setCell ⟨r, k, none⟩ v')) := by
  have hrl : r < w.heap.size := (Array.getElem?_eq_some_iff.1 hr).1
  have hra : (w.alloc (.cells #[.string x] 9)).heap[r]? = some (.cells cs ty (0, 0)) := by rw [heap_alloc_old _ _ hrl]; exact hr
  have hsz : (w.alloc (.cells #[.string x] 9)).heap.size = w.heap.size + 1 := by simp
  obtain ⟨v', w2, hrun, ho2, hg, hb⟩ := own_more ho hB hx x
  have hne : v.ownBlock ≠ some r := fun e => by
    obtain ⟨cur, hcur⟩ := own_type ho r e
    rw [hr] at hcur
    simp only [Option.some.injEq, Obj.cells.injEq] at hcur
    exact hty hcur.2.1
  have hr2 : w2.heap[r]? = some (.cells cs ty (0, 0)) := by
    rw [hg.block r (by omega) (fun e => hne e.symm)]; exact hra
  have hne' : v'.ownBlock ≠ some r := fun e => by
    rcases hb with h | h
    · exact hne (h.symm.trans e)
    · rw [h] at e; have := Option.some.inj e; omega
  refine ⟨v', w2, hrun, ?_, hr2, set_heap _ _ _ _ _ _ _ hr2, fun j hj h1 h2 => ?_, hb, fun hBr w0 hw0 => ?_⟩
  · have e2 : tV (fun i => if i = n then x else H i) (n + 1) = tV H (n + 1) := by
      unfold tV
      apply List.map_congr_left
      intro a _
      by_cases ha : a = n
      · subst ha; simp [hH]
      · simp [ha]
    rw [e2] at ho2
    exact own_kept ho2 (fun y hy => set_other _ _ _ _ _ (fun e => hne' (by rw [← e]; exact hy)))
  · rw [set_other _ _ _ _ _ h1, hg.block j (by omega) (fun e => h2 e.symm), heap_alloc_old _ _ hj]
  · have h1 : Below B w0 (w.alloc (.cells #[.string x] 9)) := hw0.alloc hB _
    exact (h1.grown hg (by omega) (fun y hy => own_ge ho y hy)).setCell (p := ⟨r, k, none⟩) hBr _
structure HD where
  K : Nat
  M : Nat
  C : Nat
  V : Nat
  root : ByteArray
  vE : Value
  es : List (ByteArray × Nat)
  num : Nat
  vL : Value
  nl : Nat
  Lf : Nat → ByteArray
  first : Nat
  vB : Value
  nb : Nat
  Bk : Nat → ByteArray
def HD.cells (d : HD) : Array Value := #[.int .i64 d.K, .int .i64 d.M, .int .i64 d.C, .int .i64 d.V, .string d.root, d.vE, .int .i64 d.num, d.vL, .int .i64 d.first, d.vB]
structure HI (w0 : World) (c h : Nat) (st : RS) (d : HD) (w : World) : Prop where
  cur : CR c st w
  row : w.heap[h]? = some (.cells d.cells 174 (0, 0))
  oE : w.ownsRow w0.heap.size 70 2 d.vE d.es.length (enV d.es)
  oL : w.ownsRow w0.heap.size 9 1 d.vL d.nl (tV d.Lf d.nl)
  oB : w.ownsRow w0.heap.size 9 1 d.vB d.nb (tV d.Bk d.nb)
  ap : ∀ j, d.vL.ownBlock = some j → d.vB.ownBlock ≠ some j
  bel : Below w0.heap.size w0 w
  lc : w0.heap.size ≤ c
  lh : w0.heap.size ≤ h
/-- the Cursor goes on -/
theorem HI.go {w0 : World} {c h : Nat} {st st' : RS} {d : HD} {w w' : World} (H : HI w0 c h st d w) (hd : CDid c st' w w') : HI w0 c h st' d w' where
  cur := hd.1
  row := by rw [hd.2.old h (Array.getElem?_eq_some_iff.1 H.row).1 (row_ne H.row H.cur.row (by decide))]; exact H.row
  oE := own_kept H.oE (fun q hq => hd.2.old q (own_lt H.oE q hq) (fun e => by
    obtain ⟨cur, hc⟩ := own_type H.oE q hq
    exact row_ne hc H.cur.row (by decide) e))
  oL := own_kept H.oL (fun q hq => hd.2.old q (own_lt H.oL q hq) (fun e => by
    obtain ⟨cur, hc⟩ := own_type H.oL q hq
    exact row_ne hc H.cur.row (by decide) e))
  oB := own_kept H.oB (fun q hq => hd.2.old q (own_lt H.oB q hq) (fun e => by
    obtain ⟨cur, hc⟩ := own_type H.oB q hq
    exact row_ne hc H.cur.row (by decide) e))
  ap := H.ap
  bel := H.bel.trans (hd.2.low (fun j e => by rw [e]; exact H.lc) H.bel.size)
  lc := H.lc
  lh := H.lh
theorem HI.low {w0 : World} {c h : Nat} {st : RS} {d : HD} {w w' : World} (H : HI w0 c h st d w) (hb : Below w.heap.size w w') : HI w0 c h st d w' := H.go ⟨H.cur.below hb, Fr.below hb⟩
/-- a plain cell of the Head -/
theorem HI.set {w0 : World} {c h : Nat} {st : RS} {d d' : HD} {w : World} (H : HI w0 c h st d w) (k : Nat) (v : Value) (hc : d'.cells = d.cells.setIfInBounds k v) (h2 : d'.es = d.es) (h3 : d'.vE = d.vE) (h4 : d'.vL = d.vL) (h5 : d'.nl = d.nl) (h6 : d'.Lf = d.Lf) (h7 : d'.vB = d.vB) (h8 : d'.nb = d.nb) (h9 : d'.Bk = d.Bk) : HI w0 c h st d' (w.setCell ⟨h, k, none⟩ v) where
  cur := ⟨by rw [set_other _ _ _ _ _ (row_ne H.cur.row H.row (by decide))]; exact H.cur.row, H.cur.nt, H.cur.small⟩
  row := by rw [set_heap _ _ _ _ _ _ _ H.row, hc]
  oE := by
    rw [h2, h3]
    exact own_kept H.oE (fun q hq => set_other _ _ _ _ _ (fun e => by
      obtain ⟨cur, hc⟩ := own_type H.oE q hq
      exact row_ne hc H.row (by decide) e))
  oL := by
    rw [h4, h5, h6]
    exact own_kept H.oL (fun q hq => set_other _ _ _ _ _ (fun e => by
      obtain ⟨cur, hc⟩ := own_type H.oL q hq
      exact row_ne hc H.row (by decide) e))
  oB := by
    rw [h7, h8, h9]
    exact own_kept H.oB (fun q hq => set_other _ _ _ _ _ (fun e => by
      obtain ⟨cur, hc⟩ := own_type H.oB q hq
      exact row_ne hc H.row (by decide) e))
  ap := by rw [h4, h7]; exact H.ap
  bel := H.bel.setCell (p := ⟨h, k, none⟩) H.lh _
  lc := H.lc
  lh := H.lh
/-- the entries -/
theorem HI.ents {w0 : World} {c h : Nat} {st : RS} {d : HD} {w : World} (H : HI w0 c h st d w) (v : Value) (es : List (ByteArray × Nat)) (ho : w.ownsRow w0.heap.size 70 2 v es.length (enV es)) : HI w0 c h st { d with vE := v, es := es } (w.setCell ⟨h, 5, none⟩ v) where
  cur := ⟨by rw [set_other _ _ _ _ _ (row_ne H.cur.row H.row (by decide))]; exact H.cur.row, H.cur.nt, H.cur.small⟩
  row := set_heap _ _ _ _ _ _ _ H.row
  oE := own_kept ho (fun q hq => set_other _ _ _ _ _ (fun e => by
      obtain ⟨cur, hc⟩ := own_type ho q hq
      exact row_ne hc H.row (by decide) e))
  oL := own_kept H.oL (fun q hq => set_other _ _ _ _ _ (fun e => by
      obtain ⟨cur, hc⟩ := own_type H.oL q hq
      exact row_ne hc H.row (by decide) e))
  oB := own_kept H.oB (fun q hq => set_other _ _ _ _ _ (fun e => by
      obtain ⟨cur, hc⟩ := own_type H.oB q hq
      exact row_ne hc H.row (by decide) e))
  ap := H.ap
  bel := H.bel.setCell (p := ⟨h, 5, none⟩) H.lh _
  lc := H.lc
  lh := H.lh
/-- one leaf more -/
theorem HI.leaf {w0 : World} {c h : Nat} {st : RS} {d : HD} {w : World} (H : HI w0 c h st d w) (x : ByteArray) (hl : d.nl ≤ 1000000) (hH : d.Lf d.nl = x) :
    ∃ v' w2, (Builtin.append_ #[42, 42] 42 #[d.vL, .slice (some ⟨w.heap.size, 0, none⟩) 1 1]).run Tryz.prog (w.alloc (.cells #[.string x] 9)) = .ok v' w2 ∧ HI w0 c h st { d with vL := v', nl := d.nl + 1 } (w2.setCell ⟨h, 7, none⟩ v') ∧ w2.heap[h]? = some (.cells d.cells 174 (0, 0)) := by
  obtain ⟨v', w2, hrun, ho, hr, hr2, hk, hb, hbel⟩ := fld_appT (k := 7) x H.row (by decide) H.oL H.bel.size hl hH
  refine ⟨v', w2, hrun, ⟨⟨?_, H.cur.nt, H.cur.small⟩, hr2, ?_, ho, ?_, ?_, hbel H.lh _ H.bel, H.lc, H.lh⟩, hr⟩
  · rw [hk c (Array.getElem?_eq_some_iff.1 H.cur.row).1 (row_ne H.cur.row H.row (by decide)) (fun e => by
      obtain ⟨cur, hcur⟩ := own_type H.oL c e
      exact row_ne H.cur.row hcur (by decide) rfl)]
    exact H.cur.row
  · refine own_kept H.oE (fun j hj => hk j (own_lt H.oE j hj) (fun e => ?_) (fun e => ?_))
    · obtain ⟨cur, hcur⟩ := own_type H.oE j hj
      exact row_ne hcur H.row (by decide) e
    · obtain ⟨cur, hcur⟩ := own_type H.oE j hj
      obtain ⟨cur2, hcur2⟩ := own_type H.oL j e
      exact row_ne hcur hcur2 (by decide) rfl
  · refine own_kept H.oB (fun j hj => hk j (own_lt H.oB j hj) (fun e => ?_) (fun e => H.ap j e hj))
    obtain ⟨cur, hcur⟩ := own_type H.oB j hj
    exact row_ne hcur H.row (by decide) e
  · intro j h1 h2
    rcases hb with e | e
    · exact H.ap j (e.symm.trans h1) h2
    · have := own_lt H.oB j h2
      have e' : v'.ownBlock = some j := h1
      rw [e] at e'
      have := Option.some.inj e'
      omega
/-- one block more -/
theorem HI.block {w0 : World} {c h : Nat} {st : RS} {d : HD} {w : World} (H : HI w0 c h st d w) (x : ByteArray) (hl : d.nb ≤ 1000000) (hH : d.Bk d.nb = x) :
    ∃ v' w2, (Builtin.append_ #[42, 42] 42 #[d.vB, .slice (some ⟨w.heap.size, 0, none⟩) 1 1]).run Tryz.prog (w.alloc (.cells #[.string x] 9)) = .ok v' w2 ∧ HI w0 c h st { d with vB := v', nb := d.nb + 1 } (w2.setCell ⟨h, 9, none⟩ v') ∧ w2.heap[h]? = some (.cells d.cells 174 (0, 0)) := by
  obtain ⟨v', w2, hrun, ho, hr, hr2, hk, hb, hbel⟩ := fld_appT (k := 9) x H.row (by decide) H.oB H.bel.size hl hH
  refine ⟨v', w2, hrun, ⟨⟨?_, H.cur.nt, H.cur.small⟩, hr2, ?_, ?_, ho, ?_, hbel H.lh _ H.bel, H.lc, H.lh⟩, hr⟩
  · rw [hk c (Array.getElem?_eq_some_iff.1 H.cur.row).1 (row_ne H.cur.row H.row (by decide)) (fun e => by
      obtain ⟨cur, hcur⟩ := own_type H.oB c e
      exact row_ne H.cur.row hcur (by decide) rfl)]
    exact H.cur.row
  · refine own_kept H.oE (fun j hj => hk j (own_lt H.oE j hj) (fun e => ?_) (fun e => ?_))
    · obtain ⟨cur, hcur⟩ := own_type H.oE j hj
      exact row_ne hcur H.row (by decide) e
    · obtain ⟨cur, hcur⟩ := own_type H.oE j hj
      obtain ⟨cur2, hcur2⟩ := own_type H.oB j e
      exact row_ne hcur hcur2 (by decide) rfl
  · refine own_kept H.oL (fun j hj => hk j (own_lt H.oL j hj) (fun e => ?_) (fun e => H.ap j hj e))
    obtain ⟨cur, hcur⟩ := own_type H.oL j hj
    exact row_ne hcur H.row (by decide) e
  · intro j h1 h2
    rcases hb with e | e
    · exact H.ap j h1 (e.symm.trans h2)
    · have := own_lt H.oL j h1
      have e' : v'.ownBlock = some j := h2
      rw [e] at e'
      have := Option.some.inj e'
      omega
theorem HI.drew {w0 : World} {c h : Nat} {st : RS} {d : HD} {w : World} (H : HI w0 c h st d w) : HI w0 c h st d w.drew := H.low ((Below.refl _ _).drew)
theorem HI.drewN {w0 : World} {c h : Nat} {st : RS} {d : HD} {w : World} (H : HI w0 c h st d w) (n : Nat) : HI w0 c h st d (w.drewN n) := H.low (below_drewN (Below.refl _ _) _)
end Go.Proofs.YtadinjaocnlglaaGreatDoor
