/-
  The rows of a report while it is made.
  The walk of Stock.Verify.
-/
import Derived.Test.YtadinjaocnlglaaGreatDoorZ35
namespace Go.Proofs.YtadinjaocnlglaaGreatDoor
open Go.RowKit
set_option maxRecDepth 100000
set_option maxHeartbeats 1000000
/-- a struct of lists, each of its own, none of them among those that are kept elsewhere -/
structure RL (B0 r : Nat) (L : List (Value × List Nat)) (out : Nat → Prop) (w : World) : Prop where
  row : w.heap[r]? = some (.cells (L.map Prod.fst).toArray 99 (0, 0))
  own : ∀ x ∈ L, w.ownsRow B0 3 1 x.1 x.2.length (unV x.2)
  apt : L.Pairwise (fun x y => Apt x.1 y.1)
  far : ∀ x ∈ L, ∀ j, x.1.ownBlock = some j → ¬ out j
theorem unV_app (a b : List Nat) : unV (a ++ b) = unV a ++ unV b := by simp [unV]
theorem set_mid (l1 l2 : List (Value × List Nat)) (x y : Value × List Nat) : ((l1 ++ x :: l2).map Prod.fst).toArray.setIfInBounds l1.length y.1 = ((l1 ++ y :: l2).map Prod.fst).toArray := by
  apply Array.toList_inj.1
  simp
theorem pair_set {α : Type} {R : α → α → Prop} {l1 l2 : List α} {x y : α} (h : (l1 ++ x :: l2).Pairwise R) (h1 : ∀ a ∈ l1, R a x → R a y) (h2 : ∀ b ∈ l2, R x b → R y b) : (l1 ++ y :: l2).Pairwise R := by
  rw [List.pairwise_append, List.pairwise_cons] at h ⊢
  refine ⟨h.1, ⟨fun b hb => h2 b hb (h.2.1.1 b hb), h.2.1.2⟩, fun a ha b hb => ?_⟩
  rcases List.mem_cons.1 hb with rfl | hb
  · exact h1 a ha (h.2.2 a ha x List.mem_cons_self)
  · exact h.2.2 a ha b (List.mem_cons_of_mem _ hb)
theorem pair_mid {α : Type} {R : α → α → Prop} {l1 l2 : List α} {x : α} (h : (l1 ++ x :: l2).Pairwise R) : (∀ a ∈ l1, R a x) ∧ ∀ b ∈ l2, R x b := by
  rw [List.pairwise_append, List.pairwise_cons] at h
  exact ⟨fun a ha => h.2.2 a ha x List.mem_cons_self, h.2.1.1⟩
/-- one of the lists becomes longer -/
theorem RL.app {B0 r : Nat} {l1 l2 : List (Value × List Nat)} {v v' : Value} {xs ys : List Nat} {out : Nat → Prop} {w w2 : World} (h : RL B0 r (l1 ++ (v, xs) :: l2) out w) (hG : w.grownBy w2 v.ownBlock) (hO : w2.ownsRow B0 3 1 v' (xs.length + ys.length) (unV xs ++ unV ys)) (hb : v'.ownBlock = v.ownBlock ∨ v'.ownBlock = some w.heap.size) (hout : ∀ j, out j → j < w.heap.size) :
    RL B0 r (l1 ++ (v', xs ++ ys) :: l2) out (w2.setCell ⟨r, l1.length, none⟩ v') := by
  have hv := h.own (v, xs) (by simp)
  have hrl := (Array.getElem?_eq_some_iff.1 h.row).1
  have hrv : some r ≠ v.ownBlock := fun e => by
    obtain ⟨cur, hcur⟩ := own_type hv r e.symm
    exact row_ne h.row hcur (by decide) rfl
  have hr2 : w2.heap[r]? = _ := (hG.block r hrl hrv).trans h.row
  have hset : ∀ {B : Nat} {u : Value} {n : Nat} {zs : List Value}, w2.ownsRow B 3 1 u n zs → (w2.setCell ⟨r, l1.length, none⟩ v').ownsRow B 3 1 u n zs := fun hu => own_kept hu (fun y hy => by
    obtain ⟨cur, hcur⟩ := own_type hu y hy
    exact set_other _ _ _ _ _ (row_ne hcur hr2 (by decide)))
  obtain ⟨p1, p2⟩ := pair_mid h.apt
  refine ⟨?_, fun x hx => ?_, pair_set h.apt (fun a ha hR => ?_) (fun b hb' hR => ?_), fun x hx j hj => ?_⟩
  · rw [set_heap _ _ _ _ _ _ _ hr2]
    have := set_mid l1 l2 (v, xs) (v', xs ++ ys)
    rw [this]
  · rcases List.mem_append.1 hx with hx | hx
    · exact hset ((h.own x (by simp [hx])).kept hG (p1 x hx).symm.ne)
    · rcases List.mem_cons.1 hx with rfl | hx
      · refine hset ?_
        rw [unV_app, List.length_append]
        exact hO
      · exact hset ((h.own x (by simp [hx])).kept hG (p2 x hx).ne)
  · exact (Apt.step hR.symm (h.own a (by simp [ha])) hb).symm
  · exact Apt.step hR (h.own b (by simp [hb'])) hb
  · rcases List.mem_append.1 hx with hx | hx
    · exact h.far x (by simp [hx]) j hj
    · rcases List.mem_cons.1 hx with rfl | hx
      · rcases hb with e | e
        · exact h.far (v, xs) (by simp) j (by rw [← e]; exact hj)
        · intro ho
          have := hout j ho
          rw [e] at hj
          cases hj
          omega
      · exact h.far x (by simp [hx]) j hj
theorem RL.kept {B0 r : Nat} {L : List (Value × List Nat)} {out out' : Nat → Prop} {w w' : World} (h : RL B0 r L out w) (ho : ∀ (j : Nat) (cs : Array Value) (t : TypeId), t = 99 ∨ t = 3 → w.heap[j]? = some (.cells cs t (0, 0)) → w'.heap[j]? = some (.cells cs t (0, 0))) (hf : ∀ j, j < w.heap.size → out' j → out j) : RL B0 r L out' w' where
  row := ho _ _ _ (.inl rfl) h.row
  own := fun x hx => own_kept' (h.own x hx) (fun j cs _ hj => ho j cs 3 (.inr rfl) hj)
  apt := h.apt
  far := fun x hx j hj ho' => h.far x hx j hj (hf j (own_lt (h.own x hx) j hj) ho')
theorem RL.below {B0 r : Nat} {L : List (Value × List Nat)} {out : Nat → Prop} {w w' : World} (h : RL B0 r L out w) (hb : Below w.heap.size w w') : RL B0 r L out w' :=
  h.kept (fun j _ _ _ hj => (hb.block j (Array.getElem?_eq_some_iff.1 hj).1).trans hj) (fun _ _ h => h)
/-- the lists that a Stock keeps -/
def outV (un : Value) (bd : Nat → Value) (dn : Nat → Bool) (ns j : Nat) : Prop := un.ownBlock = some j ∨ ∃ s, s < ns ∧ dn s = true ∧ (bd s).ownBlock = some j
theorem VS.outs {kt : Nat → Int} {B k g p q f : Nat} {T : TT} {un : Value} {ul : List Nat} {rd : Nat → Bool} {bl : Nat → ByteArray} {dn : Nat → Bool} {zs : Nat → Nat} {bd : Nat → Value} {w : World} (h : VS kt B k g p q f T un ul rd bl dn zs bd w) (j : Nat) (hj : outV un bd dn T.L.ns j) : j < w.heap.size := by
  rcases hj with e | ⟨s, hs, hd, e⟩
  · exact own_lt h.unO j e
  · exact own_lt (h.fn s hs hd).2 j e
/-- a Stock, when a list of a report has become longer -/
theorem VS.grown {kt : Nat → Int} {B k g p q f : Nat} {T : TT} {un : Value} {ul : List Nat} {rd : Nat → Bool} {bl : Nat → ByteArray} {dn : Nat → Bool} {zs : Nat → Nat} {bd : Nat → Value} {w w2 : World} {B0 r i : Nat} {l1 l2 : List (Value × List Nat)} {v v' : Value} {xs : List Nat} (h : VS kt B k g p q f T un ul rd bl dn zs bd w) (hR : RL B0 r (l1 ++ (v, xs) :: l2) (outV un bd dn T.L.ns) w) (hG : w.grownBy w2 v.ownBlock) : VS kt B k g p q f T un ul rd bl dn zs bd (w2.setCell ⟨r, i, none⟩ v') := by
  have hv := hR.own (v, xs) (by simp)
  have hrl := (Array.getElem?_eq_some_iff.1 hR.row).1
  refine h.kept (fun j cs t ht hj => ?_) (fun j hj => ?_)
  · have hjr : j ≠ r := row_ne hj hR.row (by rcases ht with e | e | e | e | e | e | e <;> simp [e])
    rw [set_other _ _ _ _ _ hjr, hG.block j (Array.getElem?_eq_some_iff.1 hj).1 (fun e => by
      obtain ⟨cur, hcur⟩ := own_type hv j e.symm
      exact row_ne hj hcur (by rcases ht with e | e | e | e | e | e | e <;> simp [e]) rfl)]
    exact hj
  · have hjl := h.outs j hj
    have hjr : j ≠ r := fun e => by
      obtain ⟨cur, hcur⟩ : ∃ cur, w.heap[j]? = some (.cells cur 3 (0, 0)) := by
        rcases hj with e' | ⟨s, hs, hd, e'⟩
        · exact own_type h.unO j e'
        · exact own_type (h.fn s hs hd).2 j e'
      exact row_ne hcur hR.row (by decide) e
    rw [set_other _ _ _ _ _ hjr, hG.block j hjl (fun e => hR.far (v, xs) (by simp) j e.symm hj)]
end Go.Proofs.YtadinjaocnlglaaGreatDoor
namespace Go.Proofs.YtadinjaocnlglaaGreatDoor
open Go.RowKit
set_option maxRecDepth 100000
set_option maxHeartbeats 4000000
/-- the numbers that were not read -/
def abF (rd : Nat → Bool) : Nat → List Nat
  | 0 => []
  | i + 1 => if rd i = true then abF rd i else abF rd i ++ [i]
/-- the bad blocks of the first stripes -/
def baF (kt : Nat → Int) (T : TT) (bl : Nat → ByteArray) : Nat → List Nat
  | 0 => []
  | s + 1 => baF kt T bl s ++ stB kt T bl s
/-- the stripes with that fate among the first -/
def fsF (kt : Nat → Int) (T : TT) (bl : Nat → ByteArray) (c : Nat) : Nat → List Nat
  | 0 => []
  | s + 1 => if stF kt T bl s = c then fsF kt T bl c s ++ [s] else fsF kt T bl c s
def dnS (dn : Nat → Bool) (s t : Nat) : Bool := dn t || decide (t < s)
theorem dnS_0 (dn : Nat → Bool) : dnS dn 0 = dn := by funext t; simp [dnS]
theorem dnS_step (dn : Nat → Bool) (s : Nat) : updB (dnS dn s) s true = dnS dn (s + 1) := by
  funext t
  unfold updB dnS
  by_cases e : t = s
  · rw [if_pos e, e]; simp
  · rw [if_neg e]
    have : decide (t < s) = decide (t < s + 1) := by
      rw [decide_eq_decide]; omega
    rw [this]
theorem abF_len (rd : Nat → Bool) : ∀ i, (abF rd i).length ≤ i
  | 0 => Nat.le_refl _
  | i + 1 => by
    have := abF_len rd i
    rw [abF]; split
    · omega
    · rw [List.length_append, List.length_singleton]; omega
theorem fsF_len (kt : Nat → Int) (T : TT) (bl : Nat → ByteArray) (c : Nat) : ∀ i, (fsF kt T bl c i).length ≤ i
  | 0 => Nat.le_refl _
  | i + 1 => by
    have := fsF_len kt T bl c i
    rw [fsF]; split
    · rw [List.length_append, List.length_singleton]; omega
    · omega
theorem baF_len (kt : Nat → Int) (T : TT) (bl : Nat → ByteArray) : ∀ s, (baF kt T bl s).length ≤ s * T.n
  | 0 => Nat.zero_le _
  | s + 1 => by
    have := baF_len kt T bl s
    have h2 : (stB kt T bl s).length ≤ T.n := badF_len _ _ _
    rw [baF, List.length_append, Nat.succ_mul]
    omega
theorem own_one (w : World) (x : Int) : (w.alloc (.cells #[.int .i64 x] 3)).ownsRow w.heap.size 3 1 (.slice (some ⟨w.heap.size, 0, none⟩) 1 1) 1 [.int .i64 x] :=
  ⟨rfl, .inr ⟨w.heap.size, 1, #[.int .i64 x], rfl, Nat.le_refl _, heap_alloc_new _ _, Nat.le_refl _, by unfold maxLen; omega, rfl, rfl⟩⟩
def repC (a b c d e : Value) : Array Value := #[a, b, c, d, e]
def nil5 : Array Value := #[.slice none 0 0, .slice none 0 0, .slice none 0 0, .slice none 0 0, .slice none 0 0]
/-- while a report is made -/
structure VR (kt : Nat → Int) (B k g p q f : Nat) (T : TT) (un : Value) (ul : List Nat) (rd : Nat → Bool) (bl : Nat → ByteArray) (dn : Nat → Bool) (zs : Nat → Nat) (bd : Nat → Value) (w0 : World) (r0 r : Nat) (L : List (Value × List Nat)) (w : World) : Prop where
  vs : VS kt B k g p q f T un ul rd bl dn zs bd w
  rl : RL w0.heap.size r L (outV un bd dn T.L.ns) w
  r0R : w.heap[r0]? = some (.cells nil5 99 (0, 0))
  ne : r0 ≠ r
  lo : w0.heap.size ≤ r0 ∧ w0.heap.size ≤ r
  fr : Fr (fun j => j = q ∨ j = f) w0 w
theorem VR.app {kt : Nat → Int} {B k g p q f : Nat} {T : TT} {un : Value} {ul : List Nat} {rd : Nat → Bool} {bl : Nat → ByteArray} {dn : Nat → Bool} {zs : Nat → Nat} {bd : Nat → Value} {w0 : World} {r0 r : Nat} {l1 l2 : List (Value × List Nat)} {v v' : Value} {xs ys : List Nat} {w w2 : World} (h : VR kt B k g p q f T un ul rd bl dn zs bd w0 r0 r (l1 ++ (v, xs) :: l2) w)
    (hG : w.grownBy w2 v.ownBlock) (hO : w2.ownsRow w0.heap.size 3 1 v' (xs.length + ys.length) (unV xs ++ unV ys)) (hb : v'.ownBlock = v.ownBlock ∨ v'.ownBlock = some w.heap.size) :
    VR kt B k g p q f T un ul rd bl dn zs bd w0 r0 r (l1 ++ (v', xs ++ ys) :: l2) (w2.setCell ⟨r, l1.length, none⟩ v') where
  vs := h.vs.grown h.rl hG
  rl := h.rl.app hG hO hb (fun j hj => h.vs.outs j hj)
  r0R := by
    have hv := h.rl.own (v, xs) (by simp)
    rw [set_other _ _ _ _ _ h.ne, hG.block r0 (Array.getElem?_eq_some_iff.1 h.r0R).1 (fun e => by
      obtain ⟨cur, hcur⟩ := own_type hv r0 e.symm
      exact row_ne h.r0R hcur (by decide) rfl)]
    exact h.r0R
  ne := h.ne
  lo := h.lo
  fr := (h.fr.grown hG (fun y hy => .inr (own_ge (h.rl.own (v, xs) (by simp)) y hy))).set (.inr h.lo.2) _ _
theorem VR.below {kt : Nat → Int} {B k g p q f : Nat} {T : TT} {un : Value} {ul : List Nat} {rd : Nat → Bool} {bl : Nat → ByteArray} {dn : Nat → Bool} {zs : Nat → Nat} {bd : Nat → Value} {w0 : World} {r0 r : Nat} {L : List (Value × List Nat)} {w w' : World} (h : VR kt B k g p q f T un ul rd bl dn zs bd w0 r0 r L w) (hb : Below w.heap.size w w') : VR kt B k g p q f T un ul rd bl dn zs bd w0 r0 r L w' where
  vs := h.vs.below hb
  rl := h.rl.below hb
  r0R := (hb.block r0 (Array.getElem?_eq_some_iff.1 h.r0R).1).trans h.r0R
  ne := h.ne
  lo := h.lo
  fr := h.fr.thenBelow hb
/-- a number behind one of the lists -/
theorem VR.one {kt : Nat → Int} {B k g p q f : Nat} {T : TT} {un : Value} {ul : List Nat} {rd : Nat → Bool} {bl : Nat → ByteArray} {dn : Nat → Bool} {zs : Nat → Nat} {bd : Nat → Value} {w0 : World} {r0 r : Nat} {l1 l2 : List (Value × List Nat)} {v : Value} {xs : List Nat} {w : World} (x : Nat) (h : VR kt B k g p q f T un ul rd bl dn zs bd w0 r0 r (l1 ++ (v, xs) :: l2) w) (hx : xs.length ≤ 1000000) :
    ∃ v' w2, (Builtin.append_ #[39, 39] 39 #[v, .slice (some ⟨w.heap.size, 0, none⟩) 1 1]).run Tryz.prog (w.alloc (.cells #[.int .i64 x] 3)) = .ok v' w2 ∧ VR kt B k g p q f T un ul rd bl dn zs bd w0 r0 r (l1 ++ (v', xs ++ [x]) :: l2) (w2.setCell ⟨r, l1.length, none⟩ v') ∧ w2.heap[r]? = some (.cells ((l1 ++ (v, xs) :: l2).map Prod.fst).toArray 99 (0, 0)) := by
  obtain ⟨i0, hi0, z0, z1, z2⟩ := info_parts info3
  have h1 := h.below ((Below.refl w.heap.size w).alloc (Nat.le_refl _) (.cells #[.int .i64 x] 3))
  have hv : (w.alloc (.cells #[.int .i64 x] 3)).ownsRow w0.heap.size 3 1 v xs.length (unV xs) := h1.rl.own (v, xs) (by simp)
  have hsz : w0.heap.size ≤ w.heap.size := h.fr.size
  obtain ⟨v', w2, hr, ho, hg, hb⟩ := app_rows 39 Tryz.underlying39 hi0 z0 z1 z2 rfl (by decide) hv (own_one w x) (by intro u hu; simp at hu; subst hu; rfl) (by omega) (by omega) (by simp; omega)
  refine ⟨v', w2, hr, h1.app (ys := [x]) hg ho hb, ?_⟩
  rw [hg.block r (Array.getElem?_eq_some_iff.1 h1.rl.row).1 (fun e => by
    obtain ⟨cur, hcur⟩ := own_type hv r e.symm
    exact row_ne h1.rl.row hcur (by decide) rfl)]
  exact h1.rl.row
/-- a finding's list behind one of the lists -/
theorem VR.more {kt : Nat → Int} {B k g p q f : Nat} {T : TT} {un : Value} {ul : List Nat} {rd : Nat → Bool} {bl : Nat → ByteArray} {dn : Nat → Bool} {zs : Nat → Nat} {bd : Nat → Value} {w0 : World} {r0 r : Nat} {l1 l2 : List (Value × List Nat)} {v : Value} {xs : List Nat} {w : World} (s : Nat) (h : VR kt B k g p q f T un ul rd bl dn zs bd w0 r0 r (l1 ++ (v, xs) :: l2) w) (hs : s < T.L.ns) (hd : dn s = true) (hx : xs.length ≤ 1000000) (hx2 : (stB kt T bl s).length ≤ 1000000) :
    ∃ v' w2, (Builtin.append_ #[39, 39] 39 #[v, bd s]).run Tryz.prog w.drew = .ok v' w2 ∧ VR kt B k g p q f T un ul rd bl dn zs bd w0 r0 r (l1 ++ (v', xs ++ stB kt T bl s) :: l2) (w2.setCell ⟨r, l1.length, none⟩ v') ∧ w2.heap[r]? = some (.cells ((l1 ++ (v, xs) :: l2).map Prod.fst).toArray 99 (0, 0)) := by
  obtain ⟨i0, hi0, z0, z1, z2⟩ := info_parts info3
  have h1 := h.below ((Below.refl w.heap.size w).drew)
  have hv : w.drew.ownsRow w0.heap.size 3 1 v xs.length (unV xs) := h1.rl.own (v, xs) (by simp)
  have hsz : w0.heap.size ≤ w.heap.size := h.fr.size
  obtain ⟨v', w2, hr, ho, hg, hb⟩ := app_rows 39 Tryz.underlying39 hi0 z0 z1 z2 rfl (by decide) hv (h1.vs.fn s hs hd).2 (unV_one _) (by omega) (by omega) (by show w0.heap.size ≤ w.heap.size; omega)
  refine ⟨v', w2, hr, h1.app hg ho hb, ?_⟩
  rw [hg.block r (Array.getElem?_eq_some_iff.1 h1.rl.row).1 (fun e => by
    obtain ⟨cur, hcur⟩ := own_type hv r e.symm
    exact row_ne h1.rl.row hcur (by decide) rfl)]
  exact h1.rl.row
/-- behind a call of stripe -/
theorem VR.stripe {kt : Nat → Int} {B k g p q f : Nat} {T : TT} {un : Value} {ul : List Nat} {rd : Nat → Bool} {bl : Nat → ByteArray} {dn : Nat → Bool} {zs zs' : Nat → Nat} {bd bd' : Nat → Value} {w0 : World} {r0 r s : Nat} {L : List (Value × List Nat)} {w w' : World} (h : VR kt B k g p q f T un ul rd bl dn zs bd w0 r0 r L w)
    (hv : VS kt B k g p q f T un ul rd bl (updB dn s true) zs' bd' w') (hF : Fr (fun j => j = q ∨ j = f) w w') (h1 : ∀ t, dn t = true → zs' t = zs t ∧ bd' t = bd t) (h2 : ∀ y, dn s = false → (bd' s).ownBlock = some y → w.heap.size ≤ y) : VR kt B k g p q f T un ul rd bl (updB dn s true) zs' bd' w0 r0 r L w' := by
  have hold : ∀ (j : Nat) (cs : Array Value) (t : TypeId), t = 99 ∨ t = 3 → w.heap[j]? = some (.cells cs t (0, 0)) → w'.heap[j]? = some (.cells cs t (0, 0)) := fun j cs t ht hj => by
    rw [hF.old j (Array.getElem?_eq_some_iff.1 hj).1 (fun e => by
      rcases e with e | e
      · exact row_ne hj h.vs.blR (by rcases ht with e | e <;> simp [e]) e
      · exact row_ne hj h.vs.fiR (by rcases ht with e | e <;> simp [e]) e)]
    exact hj
  refine ⟨hv, h.rl.kept hold (fun j hj ho => ?_), hold _ _ _ (.inl rfl) h.r0R, h.ne, h.lo, h.fr.trans' hF⟩
  rcases ho with e | ⟨t, ht, hd, e⟩
  · exact .inl e
  · by_cases hdt : dn t = true
    · exact .inr ⟨t, ht, hdt, by rw [← (h1 t hdt).2]; exact e⟩
    · have hts : t = s := by
        rcases Decidable.em (t = s) with e | e
        · exact e
        · unfold updB at hd; rw [if_neg e] at hd; exact absurd hd hdt
      subst hts
      have := h2 j (by simpa using hdt) e
      omega
end Go.Proofs.YtadinjaocnlglaaGreatDoor
