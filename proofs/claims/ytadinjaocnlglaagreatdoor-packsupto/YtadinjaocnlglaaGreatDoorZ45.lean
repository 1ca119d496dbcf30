/-
  A desk: one act.
-/
import Derived.Test.YtadinjaocnlglaaGreatDoorZ43
import Derived.Test.YtadinjaocnlglaaGreatDoorZ44
import Derived.Test.YtadinjaocnlglaaGreatDoorZ35
namespace Go.Proofs.YtadinjaocnlglaaGreatDoor
open Go.RowKit Go.Maps
set_option maxRecDepth 100000
set_option maxHeartbeats 4000000
set_option maxHeartbeats 400000 in
theorem lpick_any (c : Int) (n : Nat) (w : World) (hn : 0 < n) (hn2 : n ≤ 1000) (h0 : -9223372036854775808 ≤ c) (h1 : c ≤ 9223372036854775807) :
    Calls Tryz.prog 66 #[.int .i64 c, .int .i64 n] w fun e w' => e = .returned (.int .i64 (pk c n)) ∧ w' = w := by
  by_cases hc : c < 0
  · have E : Hid (-((c + 1).tmod (n : Int)) = ((pk c n : Nat) : Int)) := by
      show -((c + 1).tmod (n : Int)) = ((pk c n : Nat) : Int)
      unfold pk absN
      rw [if_pos hc, ← Int.neg_tmod]
      obtain ⟨a, ha⟩ : ∃ a : Nat, -(c + 1) = (a : Int) := ⟨(-(c + 1)).toNat, by omega⟩
      rw [ha, Int.toNat_natCast]
      exact Int.ofNat_tmod a n
    go_enter Tryz.func66, Tryz.ntmps66
    go_wp2
    go_ret
    rw [E.out]
    exact ⟨rfl, rfl⟩
  · have E : Hid (c % (n : Int) = ((pk c n : Nat) : Int)) := by
      show c % (n : Int) = ((pk c n : Nat) : Int)
      unfold pk absN
      rw [if_neg hc]
      obtain ⟨a, ha⟩ : ∃ a : Nat, c = (a : Int) := ⟨c.toNat, by omega⟩
      rw [ha, Int.toNat_natCast]
      exact (Int.natCast_emod a n).symm
    go_enter Tryz.func66, Tryz.ntmps66
    go_wp2
    go_ret
    rw [E.out]
    exact ⟨rfl, rfl⟩
theorem ptr_cell {w : World} {B n c : Nat} {a : Option Addr} {ps : List Pe} (h : w.ownsRow B 115 1 (.slice a n c) n (ps.map fun e => .pointer (some ⟨e.p, 0, none⟩))) (i : Nat) (hi : i < ps.length) : ∃ g, a = some ⟨g, 0, none⟩ ∧ g < w.heap.size ∧ w.cell? ⟨g, i, none⟩ = some (.pointer (some ⟨ps[i].p, 0, none⟩)) := by
  have hn : ps.length = n := by have := h.1; simpa using this
  rcases h.2 with ⟨_, h'⟩ | ⟨g, cap, cur, hv, hb, hh, _⟩
  · omega
  · obtain rfl : a = some ⟨g, 0, none⟩ := by simp at hv; exact hv.1
    have h1 := h.cellAt i (by omega)
    exact ⟨g, rfl, (Array.getElem?_eq_some_iff.1 hh).1, h1.trans (by simp [hi])⟩
/-- both sides of every Writer have the same -/
def SameP (ps : List Pe) : Prop := ∀ e ∈ ps, e.ax = e.ay ∧ e.ax.ok
/-- behind an act -/
def Stp (base d : Nat) (ps : List Pe) (X : List En) (w w' : World) : Prop := Below base w w' ∧ ∃ c' ps' X', DK base d c' ps' X' w' ∧ ps'.length = ps.length ∧ SameP ps' ∧ X'.length ≤ X.length + 1
theorem same_set (ps : List Pe) (i : Nat) (A : AW) (h : SameP ps) (hA : A.ok) : SameP (setY (setX ps i A) i A) := by
  intro e he
  obtain ⟨j, hj, rfl⟩ := List.getElem_of_mem he
  by_cases e : i = j
  · subst e
    simp [setX, setY]
    exact hA
  · have hj' : j < ps.length := by simpa [setX, setY] using hj
    have e1 : (setY (setX ps i A) i A)[j] = ps[j] := by simp [setX, setY, e]
    rw [e1]
    exact h _ (List.getElem_mem hj')
theorem act_none (base d : Nat) (c : Nat → Nat) (ps : List Pe) (X : List En) (kind wn : Int) (s : ByteArray) (w : World) (h : DK base d c ps X w) (hS : SameP ps) (h0 : ps.length = 0) :
    Calls Tryz.prog 51 #[.pointer (some ⟨d, 0, none⟩), .agg #[.int .i64 kind, .int .i64 wn, .string s]] w fun e w' => e = .returned (.bool true) ∧ Stp base d ps X w w' := by
  obtain ⟨l0, vt, h1, t2, t3, t4, t5⟩ := h.row
  obtain ⟨al, cl, hal⟩ := own_shape t4
  subst hal
  have c0 : w.cell? ⟨d, 0, none⟩ = some (.slice al ps.length cl) := cell_of_row _ _ _ _ 34 _ h1
  rw [h0] at c0
  obtain ⟨W, hW⟩ : ∃ W, w.alloc (.cells #[.int .i64 kind, .int .i64 wn, .string s] 129) = W := ⟨_, rfl⟩
  have hb : Below w.heap.size w W := by rw [← hW]; exact (Below.refl _ _).alloc (Nat.le_refl _) _
  have hbd := h.lo d (by rw [h.cd]; decide)
  have HE : Hid (Stp base d ps X w W) := ⟨hb.mono (by omega), c, ps, X, h.below hb, rfl, hS, by omega⟩
  have d0 : W.cell? ⟨d, 0, none⟩ = some (.slice al 0 cl) := (hb.cell (p := ⟨d, 0, none⟩) hbd.2).trans c0
  clear h h1 t2 t3 t4 t5 hS hb hbd c0
  go_enter Tryz.func51, Tryz.ntmps51
  go_wp2
  go_ret
  exact ⟨rfl, HE.out⟩
/-- what a call on one side leaves -/
def XK (base d : Nat) (c : Nat → Nat) (ps : List Pe) (X : List En) (w w' : World) : Prop := Below base w w' ∧ (∃ c', DK base d c' ps X w' ∧ ∀ j, j < w.heap.size → c' j = c j) ∧ ∀ j, j < w.heap.size → c j = 0 → w'.heap[j]? = w.heap[j]?
theorem XK.x {base d : Nat} {c : Nat → Nat} {ps : List Pe} {X : List En} {w w' : World} {A : AW} (h : DK base d c ps X w) (hb : base ≤ w.heap.size) (i : Nat) (hi : i < ps.length) (hD : XDid ps[i].x (fun j => c j = 2 + 2 * i) A w w') : XK base d c (setX ps i A) X w w' := by
  have h2 := h.xdid hb i hi hD
  obtain ⟨S', _, _, hF⟩ := hD
  exact ⟨hF.low (fun j hj => (h.lo j (by omega)).1) hb, h2, fun j hj hc => hF.old j hj (fun e => by omega)⟩
theorem XK.y {base d : Nat} {c : Nat → Nat} {ps : List Pe} {X : List En} {w w' : World} {A : AW} {T : Nat → Prop} (h : DK base d c ps X w) (hb : base ≤ w.heap.size) (i : Nat) (hi : i < ps.length) (hT : ∀ j, T j → c j = 3 + 2 * i) (hN : No307 T w) (hD : YDid ps[i].y T A w w') : XK base d c (setY ps i A) X w w' ∧ ∀ v l, ErrAt w v l → ErrAt w' v l := by
  have h2 := h.ydid hb i hi hT hD
  obtain ⟨S', _, _, hF⟩ := hD
  exact ⟨⟨hF.low (fun j hj => (h.lo j (by have := hT j hj; omega)).1) hb, h2, fun j hj hc => hF.old j hj (fun e => by have := hT j e; omega)⟩, fun v l hE => hE.fr hF hN⟩
theorem xb_any (base d : Nat) (c : Nat → Nat) (ps : List Pe) (X : List En) (i : Nat) (s : ByteArray) (w : World) (h : DK base d c ps X w) (hi : i < ps.length) (hb : base ≤ w.heap.size) (hA : ps[i].ax.ok) :
    Calls Tryz.prog 56 #[.pointer (some ⟨ps[i].x, 0, none⟩), .string s] w fun e w' => ∃ v, e = .returned v ∧ ErrAt w' v (ps[i].ax.bgE s) ∧ XK base d c (setX ps i (ps[i].ax.bgA s)) X w w' := by
  obtain ⟨_, _, hX, _⟩ := h.pen i hi
  refine (xbegin_any ps[i].x _ ps[i].ax s w hX hA).mono ?_
  rintro e w' ⟨v, rfl, hE, hD⟩
  exact ⟨v, rfl, hE, XK.x h hb i hi hD⟩
theorem xw_any (base d : Nat) (c : Nat → Nat) (ps : List Pe) (X : List En) (i : Nat) (s : ByteArray) (w : World) (h : DK base d c ps X w) (hi : i < ps.length) (hb : base ≤ w.heap.size) (hA : ps[i].ax.ok) :
    Calls Tryz.prog 57 #[.pointer (some ⟨ps[i].x, 0, none⟩), .string s] w fun e w' => ∃ v, e = .returned (.tuple #[.int .i64 (if ps[i].ax.wrE s = [] then (s.size : Int) else 0), v]) ∧ ErrAt w' v (ps[i].ax.wrE s) ∧ XK base d c (setX ps i (ps[i].ax.wrA s)) X w w' := by
  obtain ⟨_, _, hX, _⟩ := h.pen i hi
  refine (xwrite_any ps[i].x _ ps[i].ax s w hX hA).mono ?_
  rintro e w' ⟨v, rfl, hE, hD⟩
  exact ⟨v, rfl, hE, XK.x h hb i hi hD⟩
theorem yb_any (base d : Nat) (c : Nat → Nat) (ps : List Pe) (X : List En) (i : Nat) (s : ByteArray) (w : World) (h : DK base d c ps X w) (hi : i < ps.length) (hb : base ≤ w.heap.size) (hA : ps[i].ay.ok) :
    Calls Tryz.prog 92 #[.pointer (some ⟨ps[i].y, 0, none⟩), .string s] w fun e w' => ∃ v, e = .returned v ∧ w'.ownsRow 0 250 2 v (ps[i].ay.bgE s).length (mkL (ps[i].ay.bgE s)) ∧ XK base d c (setY ps i (ps[i].ay.bgA s)) X w w' ∧ ∀ v l, ErrAt w v l → ErrAt w' v l := by
  obtain ⟨_, _, _, hY⟩ := h.pen i hi
  obtain ⟨T, h1, h2, h3⟩ := hY.exact
  refine (rbegin_any ps[i].y T ps[i].ay s w h2 hA).mono ?_
  rintro e w' ⟨v, rfl, hO, hD⟩
  obtain ⟨k1, k2⟩ := XK.y h hb i hi h1 h3 hD
  exact ⟨v, rfl, hO, k1, k2⟩
theorem yw_any (base d : Nat) (c : Nat → Nat) (ps : List Pe) (X : List En) (i : Nat) (s : ByteArray) (w : World) (h : DK base d c ps X w) (hi : i < ps.length) (hb : base ≤ w.heap.size) (hA : ps[i].ay.ok) (hs2 : s.size ≤ 140737488355328) :
    Calls Tryz.prog 93 #[.pointer (some ⟨ps[i].y, 0, none⟩), .string s] w fun e w' => ∃ v, e = .returned (.tuple #[.int .i64 (if ps[i].ay.wrE s = [] then (s.size : Int) else 0), v]) ∧ w'.ownsRow 0 250 2 v (ps[i].ay.wrE s).length (mkL (ps[i].ay.wrE s)) ∧ XK base d c (setY ps i (ps[i].ay.wrA s)) X w w' ∧ ∀ v l, ErrAt w v l → ErrAt w' v l := by
  obtain ⟨_, _, _, hY⟩ := h.pen i hi
  obtain ⟨T, h1, h2, h3⟩ := hY.exact
  refine (rwrite_any ps[i].y T ps[i].ay s w h2 hA hs2).mono ?_
  rintro e w' ⟨v, rfl, hO, hD⟩
  obtain ⟨k1, k2⟩ := XK.y h hb i hi h1 h3 hD
  exact ⟨v, rfl, hO, k1, k2⟩
/-- what lies in the memory between the calls of an act -/
structure Btw (kt : Nat → Int) (base d ab p x y : Nat) (c : Nat → Nat) (ps : List Pe) (X : List En) (kind wn : Int) (s : ByteArray) (W w : World) : Prop where
  dk : DK base d c ps X w
  bel : Below base W w
  sz : base ≤ w.heap.size
  glb : Glb kt w
  ca : c ab = 0
  pen : w.cell? ⟨p, 0, none⟩ = some (.pointer (some ⟨x, 0, none⟩)) ∧ w.cell? ⟨p, 1, none⟩ = some (.pointer (some ⟨y, 0, none⟩))
  act : w.heap[ab]? = some (.cells #[.int .i64 kind, .int .i64 wn, .string s] 129 (0, 0))
  six : w.cell? ⟨d, 6, none⟩ = some (.bool false)
theorem Btw.below {kt : Nat → Int} {base d ab p x y : Nat} {c : Nat → Nat} {ps : List Pe} {X : List En} {kind wn : Int} {s : ByteArray} {W w w' : World} (h : Btw kt base d ab p x y c ps X kind wn s W w) (h8 : 8 ≤ base) (hb : Below w.heap.size w w') : Btw kt base d ab p x y c ps X kind wn s W w' :=
  ⟨h.dk.below hb, h.bel.trans (hb.mono h.sz), Nat.le_trans h.sz hb.size, h.glb.low h8 (hb.mono h.sz), h.ca, ⟨(hb.cell (p := ⟨p, 0, none⟩) (block_lt_of_cell h.pen.1)).trans h.pen.1, (hb.cell (p := ⟨p, 1, none⟩) (block_lt_of_cell h.pen.2)).trans h.pen.2⟩, by rw [hb.block ab (Array.getElem?_eq_some_iff.1 h.act).1]; exact h.act, (hb.cell (p := ⟨d, 6, none⟩) (block_lt_of_cell h.six)).trans h.six⟩
theorem Btw.xk {kt : Nat → Int} {base d ab p x y i : Nat} {c : Nat → Nat} {ps ps' : List Pe} {X : List En} {kind wn : Int} {s : ByteArray} {W w w' : World} (h : Btw kt base d ab p x y c ps X kind wn s W w) (h8 : 8 ≤ base) (hk : XK base d c ps' X w w') (hi : i < ps'.length) (e1 : ps'[i].p = p) (e2 : ps'[i].x = x) (e3 : ps'[i].y = y) : ∃ c', Btw kt base d ab p x y c' ps' X kind wn s W w' := by
  obtain ⟨hb, ⟨c', hD, hc⟩, hz⟩ := hk
  have hal := (Array.getElem?_eq_some_iff.1 h.act).1
  obtain ⟨⟨vo, rt, hp⟩, _⟩ := hD.pen i hi
  rw [e1, e2, e3] at hp
  obtain ⟨l0, vt, h1, _⟩ := hD.row
  exact ⟨c', hD, h.bel.trans hb, Nat.le_trans h.sz hb.size, h.glb.low h8 hb, by rw [hc ab hal]; exact h.ca, ⟨cell_of_row _ _ _ _ 114 _ hp, cell_of_row _ _ _ _ 114 _ hp⟩, by rw [hz ab hal h.ca]; exact h.act, cell_of_row _ _ _ _ 34 _ h1⟩
theorem Btw.a2 {kt : Nat → Int} {base d ab p x y : Nat} {c : Nat → Nat} {ps : List Pe} {X : List En} {kind wn : Int} {s : ByteArray} {W w : World} (h : Btw kt base d ab p x y c ps X kind wn s W w) : w.cell? ⟨ab, 2, none⟩ = some (.string s) := cell_of_row _ _ _ _ 129 _ h.act
theorem Btw.a0 {kt : Nat → Int} {base d ab p x y : Nat} {c : Nat → Nat} {ps : List Pe} {X : List En} {kind wn : Int} {s : ByteArray} {W w : World} (h : Btw kt base d ab p x y c ps X kind wn s W w) : w.cell? ⟨ab, 0, none⟩ = some (.int .i64 kind) := cell_of_row _ _ _ _ 129 _ h.act
theorem setX_get (ps : List Pe) (i : Nat) (A : AW) (hi : i < ps.length) : ∃ h : i < (setX ps i A).length, (setX ps i A)[i] = { ps[i] with ax := A } := ⟨by simpa [setX] using hi, by simp [setX]⟩
theorem st_len (A : AW) : A.state.length ≤ 1000 := by
  unfold AW.state
  split
  · simp
  · split <;> simp
theorem bgE_len (A : AW) (s : ByteArray) : (A.bgE s).length ≤ 1000 := by
  unfold AW.bgE
  split
  · split
    · simp
    · split
      · simp
      · split <;> simp
  · exact st_len A
theorem wrE_len (A : AW) (s : ByteArray) : (A.wrE s).length ≤ 1000 := by
  unfold AW.wrE
  split
  · split
    · simp
    · split <;> simp
  · exact st_len A
theorem act_begin (kt : Nat → Int) (base d : Nat) (c : Nat → Nat) (ps : List Pe) (X : List En) (wn : Int) (s : ByteArray) (w : World) (h : DK base d c ps X w) (hS : SameP ps) (hpos : 0 < ps.length) (hps : ps.length ≤ 10) (hw0 : -9223372036854775808 ≤ wn) (hw1 : wn ≤ 9223372036854775807) (hb : base ≤ w.heap.size) (h8 : 8 ≤ base) (hG : Glb kt w) :
    Calls Tryz.prog 51 #[.pointer (some ⟨d, 0, none⟩), .agg #[.int .i64 1, .int .i64 wn, .string s]] w fun e w' => e = .returned (.bool true) ∧ Stp base d ps X w w' := by
  obtain ⟨l0, vt, h1, t2, t3, t4, t5⟩ := h.row
  have hdl : d < w.heap.size := (Array.getElem?_eq_some_iff.1 h1).1
  obtain ⟨al, cl, hal⟩ := own_shape t4
  subst hal
  have hi : pk wn ps.length < ps.length := pk_lt wn ps.length hpos
  obtain ⟨i, hie⟩ : ∃ i, pk wn ps.length = i := ⟨_, rfl⟩
  have H66 : Hid (∀ V : World, Calls Tryz.prog 66 #[.int .i64 wn, .int .i64 ps.length] V fun e w' => e = .returned (.int .i64 i) ∧ w' = V) := fun V => by rw [← hie]; exact lpick_any wn ps.length V hpos (by omega) hw0 hw1
  rw [hie] at hi
  clear hie
  obtain ⟨lb, hla, hlbl, hlc⟩ := ptr_cell t4 i hi
  subst hla
  have c0 : w.cell? ⟨d, 0, none⟩ = some (.slice (some ⟨lb, 0, none⟩) ps.length cl) := cell_of_row _ _ _ _ 34 _ h1
  obtain ⟨W, hW⟩ : ∃ W, w.alloc (.cells #[.int .i64 1, .int .i64 wn, .string s] 129) = W := ⟨_, rfl⟩
  have hBW : Below w.heap.size w W := by rw [← hW]; exact (Below.refl _ _).alloc (Nat.le_refl _) _
  have hrow : W.heap[w.heap.size]? = some (.cells #[.int .i64 1, .int .i64 wn, .string s] 129 (0, 0)) := by rw [← hW]; exact heap_alloc_new _ _
  have HD : Hid (DK base d c ps X W) := h.below hBW
  have HBW : Hid _ := hBW
  have HGW : Hid (Glb kt W) := hG.low h8 (hBW.mono hb)
  have hbW : base ≤ W.heap.size := Nat.le_trans hb hBW.size
  obtain ⟨A, hAe⟩ : ∃ A, ps[i].ax = A := ⟨_, rfl⟩
  have HA : Hid A.ok := by have := (hS ps[i] (List.getElem_mem hi)).2; rw [hAe] at this; exact this
  have HAX : Hid (ps[i].ax = A) := hAe
  have HAY : Hid (ps[i].ay = A) := by have := (hS ps[i] (List.getElem_mem hi)).1; rw [hAe] at this; exact this.symm
  have HS : Hid _ := hS
  obtain ⟨⟨vo, rt, hp⟩, hpc, hXI, hYI⟩ := HD.out.pen i hi
  obtain ⟨p, hpe⟩ : ∃ p, ps[i].p = p := ⟨_, rfl⟩
  obtain ⟨x, hxe⟩ : ∃ x, ps[i].x = x := ⟨_, rfl⟩
  obtain ⟨y, hye⟩ : ∃ y, ps[i].y = y := ⟨_, rfl⟩
  have HPE : Hid _ := hpe
  have HXE : Hid _ := hxe
  have HYE : Hid _ := hye
  have hplb : p < W.heap.size := by rw [← hpe]; exact (HD.out.lo ps[i].p (by rw [hpc]; decide)).2
  rw [hpe, hxe, hye] at hp
  rw [hpe] at hlc
  have p0 : W.cell? ⟨p, 0, none⟩ = some (.pointer (some ⟨x, 0, none⟩)) := cell_of_row _ _ _ _ 114 _ hp
  have p1 : W.cell? ⟨p, 1, none⟩ = some (.pointer (some ⟨y, 0, none⟩)) := cell_of_row _ _ _ _ 114 _ hp
  have d0 : W.cell? ⟨d, 0, none⟩ = some (.slice (some ⟨lb, 0, none⟩) ps.length cl) := (hBW.cell (p := ⟨d, 0, none⟩) hdl).trans c0
  have lc : W.cell? ⟨lb, i, none⟩ = some (.pointer (some ⟨p, 0, none⟩)) := (hBW.cell (p := ⟨lb, i, none⟩) hlbl).trans hlc
  obtain ⟨ab, hab⟩ : ∃ ab, w.heap.size = ab := ⟨_, rfl⟩
  have HAB : Hid _ := hab
  rw [hab] at hrow
  have a0 : W.cell? ⟨ab, 0, none⟩ = some (.int .i64 1) := cell_of_row _ _ _ _ 129 _ hrow
  have a1 : W.cell? ⟨ab, 1, none⟩ = some (.int .i64 wn) := cell_of_row _ _ _ _ 129 _ hrow
  have a2 : W.cell? ⟨ab, 2, none⟩ = some (.string s) := cell_of_row _ _ _ _ 129 _ hrow
  have habl : ab < W.heap.size := (Array.getElem?_eq_some_iff.1 hrow).1
  have HXI : Hid (XI x (fun j => c j = 2 + 2 * i) A W) := by rw [← hxe, ← hAe]; exact hXI
  obtain ⟨np, hnp⟩ : ∃ np, ps.length = np := ⟨_, rfl⟩
  have HNP : Hid _ := hnp
  rw [hnp] at H66 c0 d0 hi hpos
  have hz : ((np : Int) == 0) = false := by simp; omega
  have hin : (i : Int) < (np : Int) := by omega
  have hi0 : (0 : Int) ≤ (i : Int) := by omega
  have HBT : Hid (Btw kt base d ab p x y c ps X 1 wn s w W) := ⟨HD.out, HBW.out.mono hb, hbW, HGW.out, by
      apply Decidable.byContradiction
      intro hne
      have h1 := (h.lo ab hne).2
      omega, ⟨p0, p1⟩, hrow, (hBW.cell (p := ⟨d, 6, none⟩) hdl).trans (cell_of_row _ _ _ _ 34 _ h1)⟩
  clear h h1 t2 t3 t4 t5 hS hBW hrow hp hpc hXI hYI hG hpe hxe hye hAe hnp hlc
  go_enter Tryz.func51, Tryz.ntmps51
  go_wp2_with fail
  try rw [hW]
  try rw [hab]
  clear hW c0 hab
  go_region_held3 (fun w2 => w2.cell? ⟨d, 0, none⟩ = some (.slice (some ⟨lb, 0, none⟩) np cl) ∧ w2.cell? ⟨ab, 1, none⟩ = some (.int .i64 wn) ∧ w2.cell? ⟨lb, i, none⟩ = some (.pointer (some ⟨p, 0, none⟩))) (go_keep) ((go_at_call 66; refine Calls.mono (H66.out _) ?_; rintro e w2 ⟨rfl, rfl⟩))
  obtain ⟨V, hV⟩ : ∃ V, W.drew = V := ⟨_, rfl⟩
  have hBV : Btw kt base d ab p x y c ps X 1 wn s w V := by rw [← hV]; exact HBT.out.below h8 ((Below.refl _ _).drew)
  rw [hV]
  have v0 := hBV.a0
  have v2 := hBV.a2
  have vp := hBV.pen.1
  have habV := block_lt_of_cell v2
  have hpV := block_lt_of_cell vp
  have HBV : Hid _ := hBV
  have H56 : Hid (∀ V' : World, Below V.heap.size V V' → Calls Tryz.prog 56 #[.pointer (some ⟨x, 0, none⟩), .string s] V' fun e w' => ∃ v, e = .returned v ∧ ErrAt w' v (A.bgE s) ∧ ∃ c', Btw kt base d ab p x y c' (setX ps i (A.bgA s)) X 1 wn s w w') := fun V' hV' => by
    have hB := HBV.out.below h8 hV'
    have hil : i < ps.length := by rw [HNP.out]; exact hi
    have := xb_any base d c ps X i s V' hB.dk hil hB.sz (by rw [HAX.out]; exact HA.out)
    rw [HXE.out, HAX.out] at this
    refine this.mono ?_
    rintro e w' ⟨v, rfl, hE, hK⟩
    obtain ⟨hi', hg'⟩ := setX_get ps i (A.bgA s) hil
    exact ⟨v, rfl, hE, hB.xk h8 hK hi' (by rw [hg']; exact HPE.out) (by rw [hg']; exact HXE.out) (by rw [hg']; exact HYE.out)⟩
  clear hV hBV p0 p1 d0 lc a0 a1 a2 H66 HBT
  go_wp2_with fail
  go_region_held3 (fun w2 => w2.cell? ⟨p, 0, none⟩ = some (.pointer (some ⟨x, 0, none⟩)) ∧ w2.cell? ⟨ab, 2, none⟩ = some (.string s)) (go_keep) ((go_at_call 56; refine Calls.mono (H56.out _ (by first | exact Below.refl _ _ | exact (Below.refl _ _).drew)) ?_; rintro e w3 ⟨e1, rfl, hE3, c1, hB3⟩; have q0 := hB3.pen.1; have q2 := hB3.a2))
  have HE3 : Hid _ := hE3
  have HB3 : Hid _ := hB3
  have q1 := hB3.pen.2
  have H92 : Hid (∀ V' : World, Below w3.heap.size w3 V' → Calls Tryz.prog 92 #[.pointer (some ⟨y, 0, none⟩), .string s] V' fun e w' => ∃ v, e = .returned v ∧ w'.ownsRow 0 250 2 v (A.bgE s).length (mkL (A.bgE s)) ∧ ErrAt w' e1 (A.bgE s) ∧ ∃ c', Btw kt base d ab p x y c' (setY (setX ps i (A.bgA s)) i (A.bgA s)) X 1 wn s w w') := fun V' hV' => by
    have hB := HB3.out.below h8 hV'
    have hil : i < ps.length := by rw [HNP.out]; exact hi
    obtain ⟨hi', hg'⟩ := setX_get ps i (A.bgA s) hil
    have hay : (setX ps i (A.bgA s))[i].ay = A := by rw [hg']; exact HAY.out
    have hyy : (setX ps i (A.bgA s))[i].y = y := by rw [hg']; exact HYE.out
    have := yb_any base d c1 (setX ps i (A.bgA s)) X i s V' hB.dk hi' hB.sz (by rw [hay]; exact HA.out)
    rw [hyy, hay] at this
    refine this.mono ?_
    rintro e w' ⟨v, rfl, hO, hK, hEr⟩
    obtain ⟨hi2, hg2⟩ := setXY_get ps i (A.bgA s) (A.bgA s) hil
    exact ⟨v, rfl, hO, hEr _ _ (ErrAt.below HE3.out hV'), hB.xk h8 hK hi2 (by rw [hg2]; exact HPE.out) (by rw [hg2]; exact HXE.out) (by rw [hg2]; exact HYE.out)⟩
  have H50 : Hid (∀ (V' : World) (c2 : Nat → Nat) (v2 : Value), Btw kt base d ab p x y c2 (setY (setX ps i (A.bgA s)) i (A.bgA s)) X 1 wn s w V' → ErrAt V' e1 (A.bgE s) → V'.ownsRow 0 250 2 v2 (A.bgE s).length (mkL (A.bgE s)) → Calls Tryz.prog 50 #[.pointer (some ⟨d, 0, none⟩), e1, v2] V' fun ev w' => ev = .returned (.bool true) ∧ Below V'.heap.size V' w') := fun V' c2 v2 hB hE hO => dtold_any d (A.bgE s) e1 v2 0 V' hB.six hB.glb.ge hE hO (bgE_len A s)
  clear hE3 hB3 v0 v2 vp H56 HBV
  go_wp2_with fail
  go_region_held3 (fun w2 => w2.cell? ⟨p, 1, none⟩ = some (.pointer (some ⟨y, 0, none⟩)) ∧ w2.cell? ⟨ab, 2, none⟩ = some (.string s)) (go_keep) (first | (go_at_call 92; refine Calls.mono (H92.out _ (by first | exact Below.refl _ _ | exact (Below.refl _ _).drew)) ?_; rintro e w4 ⟨v4, rfl, hO4, hE4, c2, hB4⟩; have r1 := hB4.pen.2; have r2 := hB4.a2) | (go_at_call 50; refine Calls.mono (H50.out w4 c2 v4 hB4 hE4 hO4) ?_; rintro e w5 ⟨rfl, hb5⟩; have hB5 := (hB4.below h8 hb5); have s1 := hB5.pen.2; have s2 := hB5.a2))
  have HB5 : Hid _ := hB5
  clear hB4 hB5 hO4 hE4 hb5 r1 r2 s1 s2 H92 H50
  go_wp2
  go_ret
  have hil : i < ps.length := by rw [HNP.out]; exact hi
  exact ⟨rfl, HB5.out.bel, c2, _, X, HB5.out.dk, by simp [setX, setY], same_set ps i _ HS.out (HA.out.bg s), by omega⟩
theorem act_write (kt : Nat → Int) (base d : Nat) (c : Nat → Nat) (ps : List Pe) (X : List En) (wn : Int) (s : ByteArray) (w : World) (h : DK base d c ps X w) (hS : SameP ps) (hpos : 0 < ps.length) (hps : ps.length ≤ 10) (hw0 : -9223372036854775808 ≤ wn) (hw1 : wn ≤ 9223372036854775807) (hb : base ≤ w.heap.size) (h8 : 8 ≤ base) (hG : Glb kt w) (hs2 : s.size ≤ 140737488355328) :
    Calls Tryz.prog 51 #[.pointer (some ⟨d, 0, none⟩), .agg #[.int .i64 2, .int .i64 wn, .string s]] w fun e w' => e = .returned (.bool true) ∧ Stp base d ps X w w' := by
  obtain ⟨l0, vt, h1, t2, t3, t4, t5⟩ := h.row
  have hdl : d < w.heap.size := (Array.getElem?_eq_some_iff.1 h1).1
  obtain ⟨al, cl, hal⟩ := own_shape t4
  subst hal
  have hi : pk wn ps.length < ps.length := pk_lt wn ps.length hpos
  obtain ⟨i, hie⟩ : ∃ i, pk wn ps.length = i := ⟨_, rfl⟩
  have H66 : Hid (∀ V : World, Calls Tryz.prog 66 #[.int .i64 wn, .int .i64 ps.length] V fun e w' => e = .returned (.int .i64 i) ∧ w' = V) := fun V => by rw [← hie]; exact lpick_any wn ps.length V hpos (by omega) hw0 hw1
  rw [hie] at hi
  clear hie
  obtain ⟨lb, hla, hlbl, hlc⟩ := ptr_cell t4 i hi
  subst hla
  have c0 : w.cell? ⟨d, 0, none⟩ = some (.slice (some ⟨lb, 0, none⟩) ps.length cl) := cell_of_row _ _ _ _ 34 _ h1
  obtain ⟨W, hW⟩ : ∃ W, w.alloc (.cells #[.int .i64 2, .int .i64 wn, .string s] 129) = W := ⟨_, rfl⟩
  have hBW : Below w.heap.size w W := by rw [← hW]; exact (Below.refl _ _).alloc (Nat.le_refl _) _
  have hrow : W.heap[w.heap.size]? = some (.cells #[.int .i64 2, .int .i64 wn, .string s] 129 (0, 0)) := by rw [← hW]; exact heap_alloc_new _ _
  have HD : Hid (DK base d c ps X W) := h.below hBW
  have HBW : Hid _ := hBW
  have HGW : Hid (Glb kt W) := hG.low h8 (hBW.mono hb)
  have hbW : base ≤ W.heap.size := Nat.le_trans hb hBW.size
  obtain ⟨A, hAe⟩ : ∃ A, ps[i].ax = A := ⟨_, rfl⟩
  have HA : Hid A.ok := by have := (hS ps[i] (List.getElem_mem hi)).2; rw [hAe] at this; exact this
  have HAX : Hid (ps[i].ax = A) := hAe
  have HAY : Hid (ps[i].ay = A) := by have := (hS ps[i] (List.getElem_mem hi)).1; rw [hAe] at this; exact this.symm
  have HS : Hid _ := hS
  obtain ⟨⟨vo, rt, hp⟩, hpc, hXI, hYI⟩ := HD.out.pen i hi
  obtain ⟨p, hpe⟩ : ∃ p, ps[i].p = p := ⟨_, rfl⟩
  obtain ⟨x, hxe⟩ : ∃ x, ps[i].x = x := ⟨_, rfl⟩
  obtain ⟨y, hye⟩ : ∃ y, ps[i].y = y := ⟨_, rfl⟩
  have HPE : Hid _ := hpe
  have HXE : Hid _ := hxe
  have HYE : Hid _ := hye
  have hplb : p < W.heap.size := by rw [← hpe]; exact (HD.out.lo ps[i].p (by rw [hpc]; decide)).2
  rw [hpe, hxe, hye] at hp
  rw [hpe] at hlc
  have p0 : W.cell? ⟨p, 0, none⟩ = some (.pointer (some ⟨x, 0, none⟩)) := cell_of_row _ _ _ _ 114 _ hp
  have p1 : W.cell? ⟨p, 1, none⟩ = some (.pointer (some ⟨y, 0, none⟩)) := cell_of_row _ _ _ _ 114 _ hp
  have d0 : W.cell? ⟨d, 0, none⟩ = some (.slice (some ⟨lb, 0, none⟩) ps.length cl) := (hBW.cell (p := ⟨d, 0, none⟩) hdl).trans c0
  have lc : W.cell? ⟨lb, i, none⟩ = some (.pointer (some ⟨p, 0, none⟩)) := (hBW.cell (p := ⟨lb, i, none⟩) hlbl).trans hlc
  obtain ⟨ab, hab⟩ : ∃ ab, w.heap.size = ab := ⟨_, rfl⟩
  have HAB : Hid _ := hab
  rw [hab] at hrow
  have a0 : W.cell? ⟨ab, 0, none⟩ = some (.int .i64 2) := cell_of_row _ _ _ _ 129 _ hrow
  have a1 : W.cell? ⟨ab, 1, none⟩ = some (.int .i64 wn) := cell_of_row _ _ _ _ 129 _ hrow
  have a2 : W.cell? ⟨ab, 2, none⟩ = some (.string s) := cell_of_row _ _ _ _ 129 _ hrow
  have habl : ab < W.heap.size := (Array.getElem?_eq_some_iff.1 hrow).1
  have HXI : Hid (XI x (fun j => c j = 2 + 2 * i) A W) := by rw [← hxe, ← hAe]; exact hXI
  obtain ⟨np, hnp⟩ : ∃ np, ps.length = np := ⟨_, rfl⟩
  have HNP : Hid _ := hnp
  rw [hnp] at H66 c0 d0 hi hpos
  have hz : ((np : Int) == 0) = false := by simp; omega
  have hin : (i : Int) < (np : Int) := by omega
  have hi0 : (0 : Int) ≤ (i : Int) := by omega
  have HBT : Hid (Btw kt base d ab p x y c ps X 2 wn s w W) := ⟨HD.out, HBW.out.mono hb, hbW, HGW.out, by
      apply Decidable.byContradiction
      intro hne
      have h1 := (h.lo ab hne).2
      omega, ⟨p0, p1⟩, hrow, (hBW.cell (p := ⟨d, 6, none⟩) hdl).trans (cell_of_row _ _ _ _ 34 _ h1)⟩
  clear h h1 t2 t3 t4 t5 hS hBW hrow hp hpc hXI hYI hG hpe hxe hye hAe hnp hlc
  go_enter Tryz.func51, Tryz.ntmps51
  go_wp2_with fail
  try rw [hW]
  try rw [hab]
  clear hW c0 hab
  go_region_held3 (fun w2 => w2.cell? ⟨d, 0, none⟩ = some (.slice (some ⟨lb, 0, none⟩) np cl) ∧ w2.cell? ⟨ab, 1, none⟩ = some (.int .i64 wn) ∧ w2.cell? ⟨lb, i, none⟩ = some (.pointer (some ⟨p, 0, none⟩))) (go_keep) ((go_at_call 66; refine Calls.mono (H66.out _) ?_; rintro e w2 ⟨rfl, rfl⟩))
  obtain ⟨N, hNN⟩ : ∃ N : Int, (if A.wrE s = [] then (s.size : Int) else 0) = N := ⟨_, rfl⟩
  have HNN : Hid _ := hNN
  clear hNN
  obtain ⟨V, hV⟩ : ∃ V, W.drew = V := ⟨_, rfl⟩
  have hBV : Btw kt base d ab p x y c ps X 2 wn s w V := by rw [← hV]; exact HBT.out.below h8 ((Below.refl _ _).drew)
  rw [hV]
  have v0 := hBV.a0
  have v2 := hBV.a2
  have vp := hBV.pen.1
  have habV := block_lt_of_cell v2
  have hpV := block_lt_of_cell vp
  have HBV : Hid _ := hBV
  have H57 : Hid (∀ V' : World, Below V.heap.size V V' → Calls Tryz.prog 57 #[.pointer (some ⟨x, 0, none⟩), .string s] V' fun e w' => ∃ v, e = .returned (.tuple #[.int .i64 N, v]) ∧ ErrAt w' v (A.wrE s) ∧ ∃ c', Btw kt base d ab p x y c' (setX ps i (A.wrA s)) X 2 wn s w w') := fun V' hV' => by
    have hB := HBV.out.below h8 hV'
    have hil : i < ps.length := by rw [HNP.out]; exact hi
    have := xw_any base d c ps X i s V' hB.dk hil hB.sz (by rw [HAX.out]; exact HA.out)
    rw [HXE.out, HAX.out, HNN.out] at this
    refine this.mono ?_
    rintro e w' ⟨v, rfl, hE, hK⟩
    obtain ⟨hi', hg'⟩ := setX_get ps i (A.wrA s) hil
    exact ⟨v, rfl, hE, hB.xk h8 hK hi' (by rw [hg']; exact HPE.out) (by rw [hg']; exact HXE.out) (by rw [hg']; exact HYE.out)⟩
  clear hV hBV p0 p1 d0 lc a0 a1 a2 H66 HBT
  go_wp2_with fail
  go_region_held3 (fun w2 => w2.cell? ⟨p, 0, none⟩ = some (.pointer (some ⟨x, 0, none⟩)) ∧ w2.cell? ⟨ab, 2, none⟩ = some (.string s)) (go_keep) ((go_at_call 57; refine Calls.mono (H57.out _ (by first | exact Below.refl _ _ | exact (Below.refl _ _).drew)) ?_; rintro e w3 ⟨e1, rfl, hE3, c1, hB3⟩; have q0 := hB3.pen.1; have q2 := hB3.a2))
  have HE3 : Hid _ := hE3
  have HB3 : Hid _ := hB3
  have q1 := hB3.pen.2
  have H93 : Hid (∀ V' : World, Below w3.heap.size w3 V' → Calls Tryz.prog 93 #[.pointer (some ⟨y, 0, none⟩), .string s] V' fun e w' => ∃ v, e = .returned (.tuple #[.int .i64 N, v]) ∧ w'.ownsRow 0 250 2 v (A.wrE s).length (mkL (A.wrE s)) ∧ ErrAt w' e1 (A.wrE s) ∧ ∃ c', Btw kt base d ab p x y c' (setY (setX ps i (A.wrA s)) i (A.wrA s)) X 2 wn s w w') := fun V' hV' => by
    have hB := HB3.out.below h8 hV'
    have hil : i < ps.length := by rw [HNP.out]; exact hi
    obtain ⟨hi', hg'⟩ := setX_get ps i (A.wrA s) hil
    have hay : (setX ps i (A.wrA s))[i].ay = A := by rw [hg']; exact HAY.out
    have hyy : (setX ps i (A.wrA s))[i].y = y := by rw [hg']; exact HYE.out
    have := yw_any base d c1 (setX ps i (A.wrA s)) X i s V' hB.dk hi' hB.sz (by rw [hay]; exact HA.out) hs2
    rw [hyy, hay, HNN.out] at this
    refine this.mono ?_
    rintro e w' ⟨v, rfl, hO, hK, hEr⟩
    obtain ⟨hi2, hg2⟩ := setXY_get ps i (A.wrA s) (A.wrA s) hil
    exact ⟨v, rfl, hO, hEr _ _ (ErrAt.below HE3.out hV'), hB.xk h8 hK hi2 (by rw [hg2]; exact HPE.out) (by rw [hg2]; exact HXE.out) (by rw [hg2]; exact HYE.out)⟩
  have H50 : Hid (∀ (V' : World) (c2 : Nat → Nat) (v2 : Value), Btw kt base d ab p x y c2 (setY (setX ps i (A.wrA s)) i (A.wrA s)) X 2 wn s w V' → ErrAt V' e1 (A.wrE s) → V'.ownsRow 0 250 2 v2 (A.wrE s).length (mkL (A.wrE s)) → Calls Tryz.prog 50 #[.pointer (some ⟨d, 0, none⟩), e1, v2] V' fun ev w' => ev = .returned (.bool true) ∧ Below V'.heap.size V' w') := fun V' c2 v2 hB hE hO => dtold_any d (A.wrE s) e1 v2 0 V' hB.six hB.glb.ge hE hO (wrE_len A s)
  clear hE3 hB3 v0 v2 vp H57 HBV
  go_wp2_with fail
  go_region_held3 (fun w2 => w2.cell? ⟨p, 1, none⟩ = some (.pointer (some ⟨y, 0, none⟩)) ∧ w2.cell? ⟨ab, 2, none⟩ = some (.string s)) (go_keep) ((go_at_call 93; refine Calls.mono (H93.out _ (by first | exact Below.refl _ _ | exact (Below.refl _ _).drew)) ?_; rintro e w4 ⟨v4, rfl, hO4, hE4, c2, hB4⟩; have r1 := hB4.pen.2; have r2 := hB4.a2))
  have HB4 : Hid _ := hB4
  have HE4 : Hid _ := hE4
  have HO4 : Hid _ := hO4
  clear hB4 hO4 hE4 r1 r2 H93
  go_wp2_with fail
  refine Calls.mono (H50.out w4 c2 v4 HB4.out HE4.out HO4.out) ?_
  rintro e w5 ⟨rfl, hb5⟩
  have HB5 : Hid _ := HB4.out.below h8 hb5
  clear hb5 H50
  go_wp2
  go_ret
  exact ⟨rfl, HB5.out.bel, c2, _, X, HB5.out.dk, by simp [setX, setY], same_set ps i _ HS.out (HA.out.wr s), by omega⟩
theorem act_close (kt : Nat → Int) (base d : Nat) (c : Nat → Nat) (ps : List Pe) (X : List En) (wn : Int) (s : ByteArray) (w : World) (h : DK base d c ps X w) (hS : SameP ps) (hpos : 0 < ps.length) (hps : ps.length ≤ 10) (hw0 : -9223372036854775808 ≤ wn) (hw1 : wn ≤ 9223372036854775807) (hb : base ≤ w.heap.size) (h8 : 8 ≤ base) (hG : Glb kt w) (hX : X.length ≤ 999999999) :
    Calls Tryz.prog 51 #[.pointer (some ⟨d, 0, none⟩), .agg #[.int .i64 3, .int .i64 wn, .string s]] w fun e w' => e = .returned (.bool true) ∧ Stp base d ps X w w' := by
  obtain ⟨l0, vt, h1, t2, t3, t4, t5⟩ := h.row
  have hdl : d < w.heap.size := (Array.getElem?_eq_some_iff.1 h1).1
  obtain ⟨al, cl, hal⟩ := own_shape t4
  subst hal
  have hi : pk wn ps.length < ps.length := pk_lt wn ps.length hpos
  obtain ⟨i, hie⟩ : ∃ i, pk wn ps.length = i := ⟨_, rfl⟩
  have H66 : Hid (∀ V : World, Calls Tryz.prog 66 #[.int .i64 wn, .int .i64 ps.length] V fun e w' => e = .returned (.int .i64 i) ∧ w' = V) := fun V => by rw [← hie]; exact lpick_any wn ps.length V hpos (by omega) hw0 hw1
  rw [hie] at hi
  clear hie
  obtain ⟨lb, hla, hlbl, hlc⟩ := ptr_cell t4 i hi
  subst hla
  have c0 : w.cell? ⟨d, 0, none⟩ = some (.slice (some ⟨lb, 0, none⟩) ps.length cl) := cell_of_row _ _ _ _ 34 _ h1
  obtain ⟨W, hW⟩ : ∃ W, w.alloc (.cells #[.int .i64 3, .int .i64 wn, .string s] 129) = W := ⟨_, rfl⟩
  have hBW : Below w.heap.size w W := by rw [← hW]; exact (Below.refl _ _).alloc (Nat.le_refl _) _
  have hrow : W.heap[w.heap.size]? = some (.cells #[.int .i64 3, .int .i64 wn, .string s] 129 (0, 0)) := by rw [← hW]; exact heap_alloc_new _ _
  have HD : Hid (DK base d c ps X W) := h.below hBW
  have HBW : Hid _ := hBW
  have HGW : Hid (Glb kt W) := hG.low h8 (hBW.mono hb)
  have hbW : base ≤ W.heap.size := Nat.le_trans hb hBW.size
  obtain ⟨A, hAe⟩ : ∃ A, ps[i].ax = A := ⟨_, rfl⟩
  have HA : Hid A.ok := by have := (hS ps[i] (List.getElem_mem hi)).2; rw [hAe] at this; exact this
  have HAX : Hid (ps[i].ax = A) := hAe
  have HAY : Hid (ps[i].ay = A) := by have := (hS ps[i] (List.getElem_mem hi)).1; rw [hAe] at this; exact this.symm
  have HS : Hid _ := hS
  obtain ⟨⟨vo, rt, hp⟩, hpc, hXI, hYI⟩ := HD.out.pen i hi
  obtain ⟨p, hpe⟩ : ∃ p, ps[i].p = p := ⟨_, rfl⟩
  obtain ⟨x, hxe⟩ : ∃ x, ps[i].x = x := ⟨_, rfl⟩
  obtain ⟨y, hye⟩ : ∃ y, ps[i].y = y := ⟨_, rfl⟩
  have HPE : Hid _ := hpe
  have HXE : Hid _ := hxe
  have HYE : Hid _ := hye
  have hplb : p < W.heap.size := by rw [← hpe]; exact (HD.out.lo ps[i].p (by rw [hpc]; decide)).2
  rw [hpe, hxe, hye] at hp
  rw [hpe] at hlc
  have p0 : W.cell? ⟨p, 0, none⟩ = some (.pointer (some ⟨x, 0, none⟩)) := cell_of_row _ _ _ _ 114 _ hp
  have p1 : W.cell? ⟨p, 1, none⟩ = some (.pointer (some ⟨y, 0, none⟩)) := cell_of_row _ _ _ _ 114 _ hp
  have d0 : W.cell? ⟨d, 0, none⟩ = some (.slice (some ⟨lb, 0, none⟩) ps.length cl) := (hBW.cell (p := ⟨d, 0, none⟩) hdl).trans c0
  have lc : W.cell? ⟨lb, i, none⟩ = some (.pointer (some ⟨p, 0, none⟩)) := (hBW.cell (p := ⟨lb, i, none⟩) hlbl).trans hlc
  obtain ⟨ab, hab⟩ : ∃ ab, w.heap.size = ab := ⟨_, rfl⟩
  have HAB : Hid _ := hab
  rw [hab] at hrow
  have a0 : W.cell? ⟨ab, 0, none⟩ = some (.int .i64 3) := cell_of_row _ _ _ _ 129 _ hrow
  have a1 : W.cell? ⟨ab, 1, none⟩ = some (.int .i64 wn) := cell_of_row _ _ _ _ 129 _ hrow
  have a2 : W.cell? ⟨ab, 2, none⟩ = some (.string s) := cell_of_row _ _ _ _ 129 _ hrow
  have habl : ab < W.heap.size := (Array.getElem?_eq_some_iff.1 hrow).1
  have HXI : Hid (XI x (fun j => c j = 2 + 2 * i) A W) := by rw [← hxe, ← hAe]; exact hXI
  obtain ⟨np, hnp⟩ : ∃ np, ps.length = np := ⟨_, rfl⟩
  have HNP : Hid _ := hnp
  rw [hnp] at H66 c0 d0 hi hpos
  have hz : ((np : Int) == 0) = false := by simp; omega
  have hin : (i : Int) < (np : Int) := by omega
  have hi0 : (0 : Int) ≤ (i : Int) := by omega
  have HBT : Hid (Btw kt base d ab p x y c ps X 3 wn s w W) := ⟨HD.out, HBW.out.mono hb, hbW, HGW.out, by
      apply Decidable.byContradiction
      intro hne
      have h1 := (h.lo ab hne).2
      omega, ⟨p0, p1⟩, hrow, (hBW.cell (p := ⟨d, 6, none⟩) hdl).trans (cell_of_row _ _ _ _ 34 _ h1)⟩
  clear h h1 t2 t3 t4 t5 hS hBW hrow hp hpc hXI hYI hG hpe hxe hye hAe hnp hlc
  go_enter Tryz.func51, Tryz.ntmps51
  go_wp2_with fail
  try rw [hW]
  try rw [hab]
  clear hW c0 hab
  go_region_held3 (fun w2 => w2.cell? ⟨d, 0, none⟩ = some (.slice (some ⟨lb, 0, none⟩) np cl) ∧ w2.cell? ⟨ab, 1, none⟩ = some (.int .i64 wn) ∧ w2.cell? ⟨lb, i, none⟩ = some (.pointer (some ⟨p, 0, none⟩))) (go_keep) ((go_at_call 66; refine Calls.mono (H66.out _) ?_; rintro e w2 ⟨rfl, rfl⟩))
  obtain ⟨V, hV⟩ : ∃ V, W.drew = V := ⟨_, rfl⟩
  have hBV : Btw kt base d ab p x y c ps X 3 wn s w V := by rw [← hV]; exact HBT.out.below h8 ((Below.refl _ _).drew)
  rw [hV]
  have v0 := hBV.a0
  have HBV : Hid _ := hBV
  have H53 : Hid (Calls Tryz.prog 53 #[.pointer (some ⟨d, 0, none⟩), .pointer (some ⟨p, 0, none⟩)] V fun e w' => e = .returned (.bool true) ∧ Stp base d ps X w w') := by
    have hil : i < ps.length := by rw [HNP.out]; exact hi
    have := closes_any kt base d c ps X i A V hBV.dk hil HAX.out HAY.out HA.out hBV.sz h8 hX hBV.glb
    rw [HPE.out] at this
    refine this.mono ?_
    rintro e w' ⟨rfl, hb', c', xe, hD⟩
    exact ⟨rfl, hBV.bel.trans hb', c', _, _, hD, by simp [setX, setY], same_set ps i _ HS.out HA.out.clo, by simp⟩
  clear hV hBV p0 p1 d0 lc a0 a1 a2 H66 HBT
  go_wp2_with fail
  refine Calls.mono H53.out ?_
  rintro e w3 ⟨rfl, hst⟩
  have HST : Hid _ := hst
  clear hst
  go_wp2
  go_ret
  exact ⟨rfl, HST.out⟩
theorem act_oth (kt : Nat → Int) (base d : Nat) (c : Nat → Nat) (ps : List Pe) (X : List En) (kind : Int) (wn : Int) (s : ByteArray) (w : World) (h : DK base d c ps X w) (hS : SameP ps) (hpos : 0 < ps.length) (hps : ps.length ≤ 10) (hw0 : -9223372036854775808 ≤ wn) (hw1 : wn ≤ 9223372036854775807) (hb : base ≤ w.heap.size) (h8 : 8 ≤ base) (hG : Glb kt w) (hk1 : kind ≠ 1) (hk2 : kind ≠ 2) (hk3 : kind ≠ 3) :
    Calls Tryz.prog 51 #[.pointer (some ⟨d, 0, none⟩), .agg #[.int .i64 kind, .int .i64 wn, .string s]] w fun e w' => e = .returned (.bool true) ∧ Stp base d ps X w w' := by
  obtain ⟨l0, vt, h1, t2, t3, t4, t5⟩ := h.row
  have hdl : d < w.heap.size := (Array.getElem?_eq_some_iff.1 h1).1
  obtain ⟨al, cl, hal⟩ := own_shape t4
  subst hal
  have hi : pk wn ps.length < ps.length := pk_lt wn ps.length hpos
  obtain ⟨i, hie⟩ : ∃ i, pk wn ps.length = i := ⟨_, rfl⟩
  have H66 : Hid (∀ V : World, Calls Tryz.prog 66 #[.int .i64 wn, .int .i64 ps.length] V fun e w' => e = .returned (.int .i64 i) ∧ w' = V) := fun V => by rw [← hie]; exact lpick_any wn ps.length V hpos (by omega) hw0 hw1
  rw [hie] at hi
  clear hie
  obtain ⟨lb, hla, hlbl, hlc⟩ := ptr_cell t4 i hi
  subst hla
  have c0 : w.cell? ⟨d, 0, none⟩ = some (.slice (some ⟨lb, 0, none⟩) ps.length cl) := cell_of_row _ _ _ _ 34 _ h1
  obtain ⟨W, hW⟩ : ∃ W, w.alloc (.cells #[.int .i64 kind, .int .i64 wn, .string s] 129) = W := ⟨_, rfl⟩
  have hBW : Below w.heap.size w W := by rw [← hW]; exact (Below.refl _ _).alloc (Nat.le_refl _) _
  have hrow : W.heap[w.heap.size]? = some (.cells #[.int .i64 kind, .int .i64 wn, .string s] 129 (0, 0)) := by rw [← hW]; exact heap_alloc_new _ _
  have HD : Hid (DK base d c ps X W) := h.below hBW
  have HBW : Hid _ := hBW
  have HGW : Hid (Glb kt W) := hG.low h8 (hBW.mono hb)
  have hbW : base ≤ W.heap.size := Nat.le_trans hb hBW.size
  obtain ⟨A, hAe⟩ : ∃ A, ps[i].ax = A := ⟨_, rfl⟩
  have HA : Hid A.ok := by have := (hS ps[i] (List.getElem_mem hi)).2; rw [hAe] at this; exact this
  have HAX : Hid (ps[i].ax = A) := hAe
  have HAY : Hid (ps[i].ay = A) := by have := (hS ps[i] (List.getElem_mem hi)).1; rw [hAe] at this; exact this.symm
  have HS : Hid _ := hS
  obtain ⟨⟨vo, rt, hp⟩, hpc, hXI, hYI⟩ := HD.out.pen i hi
  obtain ⟨p, hpe⟩ : ∃ p, ps[i].p = p := ⟨_, rfl⟩
  obtain ⟨x, hxe⟩ : ∃ x, ps[i].x = x := ⟨_, rfl⟩
  obtain ⟨y, hye⟩ : ∃ y, ps[i].y = y := ⟨_, rfl⟩
  have HPE : Hid _ := hpe
  have HXE : Hid _ := hxe
  have HYE : Hid _ := hye
  have hplb : p < W.heap.size := by rw [← hpe]; exact (HD.out.lo ps[i].p (by rw [hpc]; decide)).2
  rw [hpe, hxe, hye] at hp
  rw [hpe] at hlc
  have p0 : W.cell? ⟨p, 0, none⟩ = some (.pointer (some ⟨x, 0, none⟩)) := cell_of_row _ _ _ _ 114 _ hp
  have p1 : W.cell? ⟨p, 1, none⟩ = some (.pointer (some ⟨y, 0, none⟩)) := cell_of_row _ _ _ _ 114 _ hp
  have d0 : W.cell? ⟨d, 0, none⟩ = some (.slice (some ⟨lb, 0, none⟩) ps.length cl) := (hBW.cell (p := ⟨d, 0, none⟩) hdl).trans c0
  have lc : W.cell? ⟨lb, i, none⟩ = some (.pointer (some ⟨p, 0, none⟩)) := (hBW.cell (p := ⟨lb, i, none⟩) hlbl).trans hlc
  obtain ⟨ab, hab⟩ : ∃ ab, w.heap.size = ab := ⟨_, rfl⟩
  have HAB : Hid _ := hab
  rw [hab] at hrow
  have a0 : W.cell? ⟨ab, 0, none⟩ = some (.int .i64 kind) := cell_of_row _ _ _ _ 129 _ hrow
  have a1 : W.cell? ⟨ab, 1, none⟩ = some (.int .i64 wn) := cell_of_row _ _ _ _ 129 _ hrow
  have a2 : W.cell? ⟨ab, 2, none⟩ = some (.string s) := cell_of_row _ _ _ _ 129 _ hrow
  have habl : ab < W.heap.size := (Array.getElem?_eq_some_iff.1 hrow).1
  have HXI : Hid (XI x (fun j => c j = 2 + 2 * i) A W) := by rw [← hxe, ← hAe]; exact hXI
  obtain ⟨np, hnp⟩ : ∃ np, ps.length = np := ⟨_, rfl⟩
  have HNP : Hid _ := hnp
  rw [hnp] at H66 c0 d0 hi hpos
  have hz : ((np : Int) == 0) = false := by simp; omega
  have hin : (i : Int) < (np : Int) := by omega
  have hi0 : (0 : Int) ≤ (i : Int) := by omega
  have hb1 : (kind == 1) = false := by simp [hk1]
  have hb2 : (kind == 2) = false := by simp [hk2]
  have hb3 : (kind == 3) = false := by simp [hk3]
  have HBT : Hid (Btw kt base d ab p x y c ps X kind wn s w W) := ⟨HD.out, HBW.out.mono hb, hbW, HGW.out, by
      apply Decidable.byContradiction
      intro hne
      have h1 := (h.lo ab hne).2
      omega, ⟨p0, p1⟩, hrow, (hBW.cell (p := ⟨d, 6, none⟩) hdl).trans (cell_of_row _ _ _ _ 34 _ h1)⟩
  clear h h1 t2 t3 t4 t5 hS hBW hrow hp hpc hXI hYI hG hpe hxe hye hAe hnp hlc
  go_enter Tryz.func51, Tryz.ntmps51
  go_wp2_with fail
  try rw [hW]
  try rw [hab]
  clear hW c0 hab
  go_region_held3 (fun w2 => w2.cell? ⟨d, 0, none⟩ = some (.slice (some ⟨lb, 0, none⟩) np cl) ∧ w2.cell? ⟨ab, 1, none⟩ = some (.int .i64 wn) ∧ w2.cell? ⟨lb, i, none⟩ = some (.pointer (some ⟨p, 0, none⟩))) (go_keep) ((go_at_call 66; refine Calls.mono (H66.out _) ?_; rintro e w2 ⟨rfl, rfl⟩))
  obtain ⟨V, hV⟩ : ∃ V, W.drew = V := ⟨_, rfl⟩
  have hBV : Btw kt base d ab p x y c ps X kind wn s w V := by rw [← hV]; exact HBT.out.below h8 ((Below.refl _ _).drew)
  rw [hV]
  have v0 := hBV.a0
  have HBV : Hid _ := hBV
  clear hV hBV p0 p1 d0 lc a0 a1 a2 H66 HBT
  go_wp2
  go_ret
  exact ⟨rfl, HBV.out.bel, c, ps, X, HBV.out.dk, rfl, HS.out, by omega⟩
theorem act_any (kt : Nat → Int) (base d : Nat) (c : Nat → Nat) (ps : List Pe) (X : List En) (kind wn : Int) (s : ByteArray) (w : World) (h : DK base d c ps X w) (hS : SameP ps) (hps : ps.length ≤ 10) (hw0 : -9223372036854775808 ≤ wn) (hw1 : wn ≤ 9223372036854775807) (hb : base ≤ w.heap.size) (h8 : 8 ≤ base) (hG : Glb kt w) (hs2 : s.size ≤ 140737488355328) (hX : X.length ≤ 999999999) :
    Calls Tryz.prog 51 #[.pointer (some ⟨d, 0, none⟩), .agg #[.int .i64 kind, .int .i64 wn, .string s]] w fun e w' => e = .returned (.bool true) ∧ Stp base d ps X w w' := by
  rcases Nat.eq_zero_or_pos ps.length with h0 | h0
  · exact act_none base d c ps X kind wn s w h hS h0
  · by_cases h1 : kind = 1
    · subst h1
      exact act_begin kt base d c ps X wn s w h hS h0 hps hw0 hw1 hb h8 hG
    · by_cases h2 : kind = 2
      · subst h2
        exact act_write kt base d c ps X wn s w h hS h0 hps hw0 hw1 hb h8 hG hs2
      · by_cases h3 : kind = 3
        · subst h3
          exact act_close kt base d c ps X wn s w h hS h0 hps hw0 hw1 hb h8 hG hX
        · exact act_oth kt base d c ps X kind wn s w h hS h0 hps hw0 hw1 hb h8 hG h1 h2 h3
end Go.Proofs.YtadinjaocnlglaaGreatDoor
