/-
  The walk of Stock.Verify.
  The walk of Stock.Verify.
  layout.Volumes where there is no block; the walk of Stock.Repair where all stripes are whole.
  Plain: a number's varint, written and read.
  Plain: what was read rightly is what is written of it; and what is written is read rightly.
-/
import Derived.Test.YtadinjaocnlglaaGreatDoorZ33
import Derived.Test.YtadinjaocnlglaaGreatDoorZ04
import Derived.Test.YtadinjaocnlglaaGreatDoorZ06
import Derived.Test.YtadinjaocnlglaaGreatDoorZ28
import Derived.Test.YtadinjaocnlglaaGreatDoorZ14
namespace Go.Proofs.YtadinjaocnlglaaGreatDoor
open Go.RowKit
set_option maxRecDepth 100000
set_option maxHeartbeats 4000000
def dnS (dn : Nat → Bool) (s t : Nat) : Bool := dn t || decide (t < s)
theorem dnS_0 (dn : Nat → Bool) : dnS dn 0 = dn := by funext t; simp [dnS]
theorem dnS_step (dn : Nat → Bool) (s : Nat) : updB (dnS dn s) s true = dnS dn (s + 1) := by
  funext t
  unfold updB dnS
  by_cases e : t = s
  · rw [if_pos e, e]; simp
  · rw [if_neg e]
    have : decide (t < s) = decide (t < s + 1) := by
      rw [decide_eq_decide]; omega
    rw [this]
theorem own_one (w : World) (x : Int) : (w.alloc (.cells #[.int .i64 x] 3)).ownsRow w.heap.size 3 1 (.slice (some ⟨w.heap.size, 0, none⟩) 1 1) 1 [.int .i64 x] :=
  ⟨rfl, .inr ⟨w.heap.size, 1, #[.int .i64 x], rfl, Nat.le_refl _, heap_alloc_new _ _, Nat.le_refl _, by unfold maxLen; omega, rfl, rfl⟩⟩
def repC (a b c d e : Value) : Array Value := #[a, b, c, d, e]
def nil5 : Array Value := #[.slice none 0 0, .slice none 0 0, .slice none 0 0, .slice none 0 0, .slice none 0 0]
/-- while a report is made -/
structure VR (kt : Nat → Int) (B k g p q f : Nat) (T : TT) (un : Value) (ul : List Nat) (rd : Nat → Bool) (bl : Nat → ByteArray) (dn : Nat → Bool) (zs : Nat → Nat) (bd : Nat → Value) (w0 : World) (r0 r : Nat) (L : List (Value × List Nat)) (w : World) : Prop where
  vs : VS kt B k g p q f T un ul rd bl dn zs bd w
  rl : RL w0.heap.size r L (outV un bd dn T.L.ns) w
  r0R : w.heap[r0]? = some (.cells nil5 99 (0, 0))
  ne : r0 ≠ r
  lo : w0.heap.size ≤ r0 ∧ w0.heap.size ≤ r
  fr : Fr (fun j => j = q ∨ j = f) w0 w
theorem VR.app {kt : Nat → Int} {B k g p q f : Nat} {T : TT} {un : Value} {ul : List Nat} {rd : Nat → Bool} {bl : Nat → ByteArray} {dn : Nat → Bool} {zs : Nat → Nat} {bd : Nat → Value} {w0 : World} {r0 r : Nat} {l1 l2 : List (Value × List Nat)} {v v' : Value} {xs ys : List Nat} {w w2 : World} (h : VR kt B k g p q f T un ul rd bl dn zs bd w0 r0 r (l1 ++ (v, xs) :: l2) w)
    (hG : w.grownBy w2 v.ownBlock) (hO : w2.ownsRow w0.heap.size 3 1 v' (xs.length + ys.length) (unV xs ++ unV ys)) (hb : v'.ownBlock = v.ownBlock ∨ v'.ownBlock = some w.heap.size) :
    VR kt B k g p q f T un ul rd bl dn zs bd w0 r0 r (l1 ++ (v', xs ++ ys) :: l2) (w2.setCell ⟨r, l1.length, none⟩ v') where
  vs := h.vs.grown h.rl hG
  rl := h.rl.app hG hO hb (fun j hj => h.vs.outs j hj)
  r0R := by
    have hv := h.rl.own (v, xs) (by simp)
    rw [set_other _ _ _ _ _ h.ne, hG.block r0 (Array.getElem?_eq_some_iff.1 h.r0R).1 (fun e => by
      obtain ⟨cur, hcur⟩ := own_type hv r0 e.symm
      exact row_ne h.r0R hcur (by decide) rfl)]
    exact h.r0R
  ne := h.ne
  lo := h.lo
  fr := (h.fr.grown hG (fun y hy => .inr (own_ge (h.rl.own (v, xs) (by simp)) y hy))).set (.inr h.lo.2) _ _
theorem VR.below {kt : Nat → Int} {B k g p q f : Nat} {T : TT} {un : Value} {ul : List Nat} {rd : Nat → Bool} {bl : Nat → ByteArray} {dn : Nat → Bool} {zs : Nat → Nat} {bd : Nat → Value} {w0 : World} {r0 r : Nat} {L : List (Value × List Nat)} {w w' : World} (h : VR kt B k g p q f T un ul rd bl dn zs bd w0 r0 r L w) (hb : Below w.heap.size w w') : VR kt B k g p q f T un ul rd bl dn zs bd w0 r0 r L w' where
  vs := h.vs.below hb
  rl := h.rl.below hb
  r0R := (hb.block r0 (Array.getElem?_eq_some_iff.1 h.r0R).1).trans h.r0R
  ne := h.ne
  lo := h.lo
  fr := h.fr.thenBelow hb
/-- a number behind one of the lists -/
theorem VR.one {kt : Nat → Int} {B k g p q f : Nat} {T : TT} {un : Value} {ul : List Nat} {rd : Nat → Bool} {bl : Nat → ByteArray} {dn : Nat → Bool} {zs : Nat → Nat} {bd : Nat → Value} {w0 : World} {r0 r : Nat} {l1 l2 : List (Value × List Nat)} {v : Value} {xs : List Nat} {w : World} (x : Nat) (h : VR kt B k g p q f T un ul rd bl dn zs bd w0 r0 r (l1 ++ (v, xs) :: l2) w) (hx : xs.length ≤ 1000000) :
    ∃ v' w2, (Builtin.append_ #[39, 39] 39 #[v, .slice (some ⟨w.heap.size, 0, none⟩) 1 1]).run Tryz.prog (w.alloc (.cells #[.int .i64 x] 3)) = .ok v' w2 ∧ VR kt B k g p q f T un ul rd bl dn zs bd w0 r0 r (l1 ++ (v', xs ++ [x]) :: l2) (w2.setCell ⟨r, l1.length, none⟩ v') ∧ w2.heap[r]? = some (.cells ((l1 ++ (v, xs) :: l2).map Prod.fst).toArray 99 (0, 0)) := by
  obtain ⟨i0, hi0, z0, z1, z2⟩ := info_parts info3
  have h1 := h.below ((Below.refl w.heap.size w).alloc (Nat.le_refl _) (.cells #[.int .i64 x] 3))
  have hv : (w.alloc (.cells #[.int .i64 x] 3)).ownsRow w0.heap.size 3 1 v xs.length (unV xs) := h1.rl.own (v, xs) (by simp)
  have hsz : w0.heap.size ≤ w.heap.size := h.fr.size
  obtain ⟨v', w2, hr, ho, hg, hb⟩ := app_rows 39 Tryz.underlying39 hi0 z0 z1 z2 rfl (by decide) hv (own_one w x) (by intro u hu; simp at hu; subst hu; rfl) (by omega) (by omega) (by simp; omega)
  refine ⟨v', w2, hr, h1.app (ys := [x]) hg ho hb, ?_⟩
  rw [hg.block r (Array.getElem?_eq_some_iff.1 h1.rl.row).1 (fun e => by
    obtain ⟨cur, hcur⟩ := own_type hv r e.symm
    exact row_ne h1.rl.row hcur (by decide) rfl)]
  exact h1.rl.row
/-- a finding's list behind one of the lists -/
theorem VR.more {kt : Nat → Int} {B k g p q f : Nat} {T : TT} {un : Value} {ul : List Nat} {rd : Nat → Bool} {bl : Nat → ByteArray} {dn : Nat → Bool} {zs : Nat → Nat} {bd : Nat → Value} {w0 : World} {r0 r : Nat} {l1 l2 : List (Value × List Nat)} {v : Value} {xs : List Nat} {w : World} (s : Nat) (h : VR kt B k g p q f T un ul rd bl dn zs bd w0 r0 r (l1 ++ (v, xs) :: l2) w) (hs : s < T.L.ns) (hd : dn s = true) (hx : xs.length ≤ 1000000) (hx2 : (stB kt T bl s).length ≤ 1000000) :
    ∃ v' w2, (Builtin.append_ #[39, 39] 39 #[v, bd s]).run Tryz.prog w.drew = .ok v' w2 ∧ VR kt B k g p q f T un ul rd bl dn zs bd w0 r0 r (l1 ++ (v', xs ++ stB kt T bl s) :: l2) (w2.setCell ⟨r, l1.length, none⟩ v') ∧ w2.heap[r]? = some (.cells ((l1 ++ (v, xs) :: l2).map Prod.fst).toArray 99 (0, 0)) := by
  obtain ⟨i0, hi0, z0, z1, z2⟩ := info_parts info3
  have h1 := h.below ((Below.refl w.heap.size w).drew)
  have hv : w.drew.ownsRow w0.heap.size 3 1 v xs.length (unV xs) := h1.rl.own (v, xs) (by simp)
  have hsz : w0.heap.size ≤ w.heap.size := h.fr.size
  obtain ⟨v', w2, hr, ho, hg, hb⟩ := app_rows 39 Tryz.underlying39 hi0 z0 z1 z2 rfl (by decide) hv (h1.vs.fn s hs hd).2 (unV_one _) (by omega) (by omega) (by show w0.heap.size ≤ w.heap.size; omega)
  refine ⟨v', w2, hr, h1.app hg ho hb, ?_⟩
  rw [hg.block r (Array.getElem?_eq_some_iff.1 h1.rl.row).1 (fun e => by
    obtain ⟨cur, hcur⟩ := own_type hv r e.symm
    exact row_ne h1.rl.row hcur (by decide) rfl)]
  exact h1.rl.row
/-- behind a call of stripe -/
theorem VR.stripe {kt : Nat → Int} {B k g p q f : Nat} {T : TT} {un : Value} {ul : List Nat} {rd : Nat → Bool} {bl : Nat → ByteArray} {dn : Nat → Bool} {zs zs' : Nat → Nat} {bd bd' : Nat → Value} {w0 : World} {r0 r s : Nat} {L : List (Value × List Nat)} {w w' : World} (h : VR kt B k g p q f T un ul rd bl dn zs bd w0 r0 r L w)
    (hv : VS kt B k g p q f T un ul rd bl (updB dn s true) zs' bd' w') (hF : Fr (fun j => j = q ∨ j = f) w w') (h1 : ∀ t, dn t = true → zs' t = zs t ∧ bd' t = bd t) (h2 : ∀ y, dn s = false → (bd' s).ownBlock = some y → w.heap.size ≤ y) : VR kt B k g p q f T un ul rd bl (updB dn s true) zs' bd' w0 r0 r L w' := by
  have hold : ∀ (j : Nat) (cs : Array Value) (t : TypeId), t = 99 ∨ t = 3 → w.heap[j]? = some (.cells cs t (0, 0)) → w'.heap[j]? = some (.cells cs t (0, 0)) := fun j cs t ht hj => by
    rw [hF.old j (Array.getElem?_eq_some_iff.1 hj).1 (fun e => by
      rcases e with e | e
      · exact row_ne hj h.vs.blR (by rcases ht with e | e <;> simp [e]) e
      · exact row_ne hj h.vs.fiR (by rcases ht with e | e <;> simp [e]) e)]
    exact hj
  refine ⟨hv, h.rl.kept hold (fun j hj ho => ?_), hold _ _ _ (.inl rfl) h.r0R, h.ne, h.lo, h.fr.trans' hF⟩
  rcases ho with e | ⟨t, ht, hd, e⟩
  · exact .inl e
  · by_cases hdt : dn t = true
    · exact .inr ⟨t, ht, hdt, by rw [← (h1 t hdt).2]; exact e⟩
    · have hts : t = s := by
        rcases Decidable.em (t = s) with e | e
        · exact e
        · unfold updB at hd; rw [if_neg e] at hd; exact absurd hd hdt
      subst hts
      have := h2 j (by simpa using hdt) e
      omega
end Go.Proofs.YtadinjaocnlglaaGreatDoor
namespace Go.Proofs.YtadinjaocnlglaaGreatDoor
open Go.RowKit
set_option maxRecDepth 100000
set_option maxHeartbeats 8000000
theorem apt_nil (u : Value) : Apt u (.slice none 0 0) := fun _ _ h => by cases h
theorem own_nil (w : World) (B : Nat) : w.ownsRow B 3 1 (.slice none 0 0) ([] : List Nat).length (unV []) := ⟨rfl, .inl ⟨rfl, rfl⟩⟩
theorem VR.start {kt : Nat → Int} {B k g p q f : Nat} {T : TT} {un : Value} {ul : List Nat} {rd : Nat → Bool} {bl : Nat → ByteArray} {dn : Nat → Bool} {zs : Nat → Nat} {bd : Nat → Value} {w W w1 X0 : World} {v : Value} {r : Nat} (h : VS kt B k g p q f T un ul rd bl dn zs bd w) (hbW : Below w.heap.size w W) (hWn : W.heap[w.heap.size]? = some (.cells nil5 99 (0, 0))) (hb1 : Below W.heap.size W w1) (ho : w1.ownsRow W.heap.size 3 1 v ul.length (unV ul)) (hr : w1.heap.size = r)
    (hX : w1.alloc (.cells (repC v (.slice none 0 0) (.slice none 0 0) (.slice none 0 0) (.slice none 0 0)) 99) = X0) : VR kt B k g p q f T un ul rd bl dn zs bd w w.heap.size r [(v, ul), (.slice none 0 0, []), (.slice none 0 0, []), (.slice none 0 0, []), (.slice none 0 0, [])] X0 := by
  have hWl := (Array.getElem?_eq_some_iff.1 hWn).1
  have hbX : Below w1.heap.size w1 X0 := by rw [← hX]; exact (Below.refl _ _).alloc (Nat.le_refl _) _
  have hbb : Below w.heap.size w X0 := hbW.trans ((hb1.trans (hbX.mono hb1.size)).mono hbW.size)
  have hsz := hb1.size
  refine ⟨h.below hbb, ⟨?_, ?_, ?_, ?_⟩, ?_, by omega, ⟨Nat.le_refl _, by omega⟩, Fr.below hbb⟩
  · rw [← hX, ← hr]; exact heap_alloc_new _ _
  · intro x hx
    simp only [List.mem_cons, List.not_mem_nil, or_false] at hx
    rcases hx with rfl | rfl | rfl | rfl | rfl
    · exact own_base (own_below ho hbX) hbW.size
    · exact own_nil _ _
    · exact own_nil _ _
    · exact own_nil _ _
    · exact own_nil _ _
  · simp [apt_nil]
  · intro x hx j hj ho'
    simp only [List.mem_cons, List.not_mem_nil, or_false] at hx
    rcases hx with rfl | rfl | rfl | rfl | rfl
    · have h1 := own_ge ho j hj
      have h2 := h.outs j ho'
      omega
    · cases hj
    · cases hj
    · cases hj
    · cases hj
  · rw [(hb1.trans (hbX.mono hb1.size)).block _ hWl]; exact hWn
theorem Gd.ne {kt : Nat → Int} {w : World} {j n : Nat} {t : TypeId} {F : Nat → Value} (h : Gd kt w) (hr : Rw w j n t F) (hF : ∀ i x, F i ≠ .int .u32 x) : j ≠ 2 := fun e => by
  subst e
  have h0 := h.tab 0 (by omega)
  rcases Nat.eq_zero_or_pos n with hn | hn
  · subst hn
    have hr' : w.heap[2]? = some (.cells (rowV 0 F) t (0, 0)) := hr
    have : rowV 0 F = #[] := Array.eq_empty_of_size_eq_zero (rowV_size 0 F)
    rw [this] at hr'
    simp [World.cell?, hr'] at h0
  · rw [hr.cell 0 hn] at h0
    exact hF 0 _ (Option.some.inj h0)
theorem Gd.fr {kt : Nat → Int} {w w' : World} {S : Nat → Prop} (h : Gd kt w) (hF : Fr S w w') (hS : ¬ S 2) : Gd kt w' :=
  ⟨fun k hk => (hF.cell (g := 2) (by have := h.one; omega) hS k).trans (h.tab k hk), Nat.le_trans h.one hF.size⟩
theorem VS.gd {kt : Nat → Int} {B k g p q f : Nat} {T : TT} {un : Value} {ul : List Nat} {rd : Nat → Bool} {bl : Nat → ByteArray} {dn : Nat → Bool} {zs : Nat → Nat} {bd : Nat → Value} {w w' : World} (h : VS kt B k g p q f T un ul rd bl dn zs bd w) (hG : Gd kt w) (hF : Fr (fun j => j = q ∨ j = f) w w') : Gd kt w' :=
  hG.fr hF (fun e => by
    rcases e with e | e
    · exact hG.ne h.blR (fun i x => by unfold tX; simp) e.symm
    · exact hG.ne h.fiR (fun i x => by unfold fiP; split <;> simp) e.symm)
theorem VS.all {kt : Nat → Int} {B k g p q f : Nat} {T : TT} {un : Value} {ul : List Nat} {rd : Nat → Bool} {bl : Nat → ByteArray} {dn : Nat → Bool} {zs : Nat → Nat} {bd : Nat → Value} {w w' : World} (h : VS kt B k g p q f T un ul rd bl dn zs bd w) (ho : ∀ (j : Nat) (cs : Array Value) (t : TypeId), t ≠ 99 → w.heap[j]? = some (.cells cs t (0, 0)) → w'.heap[j]? = some (.cells cs t (0, 0))) : VS kt B k g p q f T un ul rd bl dn zs bd w' :=
  h.kept (fun j cs t ht hj => ho j cs t (by rcases ht with e | e | e | e | e | e | e <;> simp [e]) hj) (fun j hj => by
    rcases hj with e | ⟨s, hs, hd, e⟩
    · obtain ⟨cur, hcur⟩ := own_type h.unO j e
      rw [ho _ _ _ (by decide) hcur, hcur]
    · obtain ⟨cur, hcur⟩ := own_type (h.fn s hs hd).2 j e
      rw [ho _ _ _ (by decide) hcur, hcur])
end Go.Proofs.YtadinjaocnlglaaGreatDoor
namespace Go.Proofs.YtadinjaocnlglaaGreatDoor
open Go.RowKit
set_option maxRecDepth 100000
set_option maxHeartbeats 2000000
theorem volumes_zero (kt : Nat → Int) (K M C V nE capE q : Nat) (aE : Option Addr) (Nm : Nat → ByteArray) (Ln : Nat → Nat) (Bk : Nat → ByteArray) (w : World) (hK : K ≤ 100000) (hM : M ≤ 100000) (hC : C ≤ 100000) (hV1 : 1 ≤ V) (hV : V ≤ 1000) (hnE : nE ≤ 1000)
    (hN : ∀ j, (Nm j).size ≤ 1000) (hLn : ∀ j, Ln j ≤ 100000) (hE : ∀ j, j < nE → ∃ b, aE = some ⟨b, 0, none⟩ ∧ b < w.heap.size ∧ w.cell? ⟨b, j * 2, none⟩ = some (.string (Nm j)) ∧ w.cell? ⟨b, j * 2 + 1, none⟩ = some (.int .i64 (Ln j)))
    (hG : Gd kt w) :
    Calls Tryz.prog 124 #[.agg #[.int .i64 K, .int .i64 M, .int .i64 C, .int .i64 V], .slice aE nE capE, .slice (some ⟨q, 0, none⟩) 0 0] w fun e w' => ∃ gv, e = .returned (.tuple #[.slice (some ⟨gv, 0, none⟩) V V, .string (rootT (ofT kt) (lstT K M C V nE Nm Ln) 0 fun i => leafT (ofT kt) (Bk i))]) ∧ w.heap.size ≤ gv ∧ Rw w' gv V 9 (tX (volT (ofT kt) (rootT (ofT kt) (lstT K M C V nE Nm Ln) 0 fun i => leafT (ofT kt) (Bk i)) (lstT K M C V nE Nm Ln) 0 (fun i => leafT (ofT kt) (Bk i)) Bk V)) ∧ Below w.heap.size w w' := by
  have hmk := run_make_row' (P := Tryz.prog) 42 9 (.string ⟨#[]⟩) 16 Tryz.underlying42 info9 rfl .i64 .i64 V (by omega) (by omega)
  have HLS : Hid _ := lstT_size K M C V nE Nm Ln hN hnE
  have HLIST : Hid (∀ W, Below w.heap.size w W → Calls Tryz.prog 180 #[.agg #[.int .i64 K, .int .i64 M, .int .i64 C, .int .i64 V], .slice aE nE capE] W fun e w' => e = .returned (.string (lstT K M C V nE Nm Ln)) ∧ Below W.heap.size W w') := fun W hW =>
    listOf_any K M C V nE capE aE Nm Ln W hK hM hC (by omega) (by omega) hN hLn (fun j hj => by
      obtain ⟨b, h1, h2, h3, h4⟩ := hE j hj
      exact ⟨b, h1, Nat.lt_of_lt_of_le h2 hW.size, (hW.cell (p := ⟨b, j * 2, none⟩) h2).trans h3, (hW.cell (p := ⟨b, j * 2 + 1, none⟩) h2).trans h4⟩)
  have HG : Hid (∀ W, Below w.heap.size w W → Gd kt W) := fun W hW => hG.below hW
  clear hN hLn hE hG
  obtain ⟨l, hl⟩ : ∃ l, lstT K M C V nE Nm Ln = l := ⟨_, rfl⟩
  rw [hl] at HLS HLIST ⊢
  clear hl
  obtain ⟨Lf, hLf⟩ : ∃ Lf : Nat → ByteArray, (fun i => leafT (ofT kt) (Bk i)) = Lf := ⟨_, rfl⟩
  have HLF : Hid (∀ i, (Lf i).size ≤ 32) := fun i => by rw [← hLf]; exact Nat.le_of_eq (ofT_size kt _)
  have HLE : Hid _ := hLf
  rw [hLf]
  clear hLf
  obtain ⟨root, hroot⟩ : ∃ root, rootT (ofT kt) l 0 Lf = root := ⟨_, rfl⟩
  have hrs : root.size = 32 := by rw [← hroot]; exact ofT_size kt _
  have HRE : Hid _ := hroot
  rw [hroot]
  clear hroot
  obtain ⟨VT, hVT⟩ : ∃ VT, volT (ofT kt) root l 0 Lf Bk V = VT := ⟨_, rfl⟩
  have HVT : Hid _ := hVT
  rw [hVT]
  clear hVT
  go_enter Tryz.func124, Tryz.ntmps124
  go_wp2_with fail
  obtain ⟨s0, hs0⟩ : ∃ s0, s0 = w.alloc (Obj.cells #[Value.int IntKind.i64 K, Value.int IntKind.i64 M, Value.int IntKind.i64 C, Value.int IntKind.i64 V] 23) := ⟨_, rfl⟩
  have HX0 : Hid (s0.heap[w.heap.size]? = some (.cells #[.int .i64 K, .int .i64 M, .int .i64 C, .int .i64 V] 23 (0, 0))) := by
    show _ = _
    rw [hs0]; exact heap_alloc_new _ _
  have HB0 : Hid (Below w.heap.size w s0) := by show Below _ _ _; rw [hs0]; exact (Below.refl _ _).alloc (Nat.le_refl _) _
  rw [← hs0]
  clear hs0
  obtain ⟨x, hx⟩ : ∃ x, x = w.heap.size := ⟨_, rfl⟩
  rw [← hx] at HX0 ⊢
  have HX : Hid _ := hx
  clear hx
  have hx0 : x < s0.heap.size := (Array.getElem?_eq_some_iff.1 HX0.out).1
  refine Calls.mono (HLIST.out s0 HB0.out) ?_
  rintro e s1 ⟨rfl, hb1⟩
  have HB1 : Hid (Below s0.heap.size s0 s1) := hb1
  clear hb1 HLIST
  have HW1 : Hid (Below w.heap.size w s1) := HB0.out.trans (HB1.out.mono HB0.out.size)
  go_wp2_with fail
  refine (leavesOf_any kt Bk (some ⟨q, 0, none⟩) 0 0 s1 (by omega) (fun i hi => by omega) (HG.out _ HW1.out) (fun i hi => by omega)).mono ?_
  rintro e s2 ⟨rfl, hR2, hb2⟩
  have HB2 : Hid (Below s0.heap.size s0 s2) := HB1.out.trans (hb2.mono HB1.out.size)
  have HR2 : Hid (Rw s2 s1.heap.size 0 9 (tI Lf)) := by show Rw s2 s1.heap.size 0 9 (tI Lf); rw [← HLE.out]; exact hR2
  have HW2 : Hid (Below w.heap.size w s2) := HB0.out.trans (HB2.out.mono HB0.out.size)
  clear hR2 hb2 HB1 HW1
  have hl2 : s1.heap.size < s2.heap.size := HR2.out.lt
  obtain ⟨gl, hgl⟩ : ∃ gl, gl = s1.heap.size := ⟨_, rfl⟩
  rw [← hgl] at HR2 hl2 ⊢
  have HGL : Hid _ := hgl
  clear hgl
  go_wp2_with fail
  refine (rootOf_any kt l Lf gl 0 0 s2 (by have := HLS.out; omega) (by omega) (fun i _ => HLF.out i) (HG.out _ HW2.out) hl2 (fun i hi => HR2.out.cell i hi)).mono ?_
  rintro e s3 ⟨rfl, hb3⟩
  rw [HRE.out]
  have HB3 : Hid (Below s0.heap.size s0 s3) := HB2.out.trans (hb3.mono HB2.out.size)
  have HR3 : Hid (Rw s3 gl 0 9 (tI Lf)) := HR2.out.below hb3 hl2
  have hl3 : gl < s3.heap.size := HR3.out.lt
  clear hb3 HB2 HR2 HW2 hl2
  have c3 : s3.cell? ⟨x, 3, none⟩ = some (.int .i64 V) := cell_of_row _ _ _ _ 23 _ (by rw [HB3.out.block x hx0]; exact HX0.out)
  go_wp2
  obtain ⟨s4, hs4⟩ : ∃ s4, s4 = s3.alloc (Obj.cells (madeCells #[Value.string { data := #[] }] V) 9) := ⟨_, rfl⟩
  have HRV : Hid (Rw s4 s3.heap.size V 9 (fun _ => .string ⟨#[]⟩)) := by show Rw _ _ _ _ _; rw [hs4]; exact Rw.made s3 V 9 _
  have hb34 : Below s3.heap.size s3 s4 := by rw [hs4]; exact (Below.refl _ _).alloc (Nat.le_refl _) _
  rw [← hs4]
  clear hs4 c3
  have HR4 : Hid (Rw s4 gl 0 9 (tI Lf)) := HR3.out.below hb34 hl3
  have HB4 : Hid (Below s3.heap.size s3 s4) := hb34
  clear hb34
  obtain ⟨gv, hgv⟩ : ∃ gv, gv = s3.heap.size := ⟨_, rfl⟩
  rw [← hgv] at HRV hl3 ⊢
  have HGV : Hid _ := hgv
  have hxv : x < gv := by rw [hgv]; exact Nat.lt_of_lt_of_le hx0 HB3.out.size
  clear hgv
  have HSB : Hid (Below w.heap.size w s3) := HB0.out.trans (HB3.out.mono HB0.out.size)
  go_loopw [27] (fun iv wr => ∃ v : Nat, v ≤ V ∧ iv = .int .i64 v ∧ Rw wr gv V 9 (part' v (tX VT) (.string ⟨#[]⟩)) ∧ Below gv s3 wr) (fun iv _ => V - (intOf iv).toNat)
  case atStart => exact ⟨0, by omega, rfl, HRV.out.to (fun j _ => (part_0 _ _ j).symm), by rw [HGV.out]; exact HB4.out⟩
  case round =>
    obtain ⟨v, hv, rfl, hRr, hbr⟩ := hrel
    have HRR : Hid (Rw wr gv V 9 (part' v (tX VT) (.string ⟨#[]⟩))) := hRr
    have HBR : Hid (Below gv s3 wr) := hbr
    clear hRr hbr
    have HWR : Hid (Below w.heap.size w wr) := HSB.out.trans (HBR.out.mono (by rw [HGV.out]; exact HSB.out.size))
    by_cases hlt : v < V
    · have hls := HLS.out
      have q1 : ((⟨#[86, 79, 76, 49]⟩ : ByteArray) ++ root).size ≤ 100 := by
        rw [ByteArray.size_append, hrs]
        have : (⟨#[86, 79, 76, 49]⟩ : ByteArray).size = 4 := rfl
        omega
      have q2 : ((⟨#[86, 79, 76, 49]⟩ : ByteArray) ++ root ++ l).size ≤ 3000000 := by rw [ByteArray.size_append]; omega
      have hvm : ((v : Nat) : Int) % 4294967296 = ((v : Nat) : Int) := by omega
      have hvs := vint_size v
      have q3 : ((⟨#[86, 79, 76, 49]⟩ : ByteArray) ++ root ++ l ++ vint v).size ≤ 3000100 := by rw [ByteArray.size_append]; omega
      have hjs : (jT Lf 0).size ≤ 1000000 := Nat.le_trans (jT_size Lf 32 0 (fun i _ => HLF.out i)) (by omega)
      have HTD : Hid (toldT root l 0 Lf v = (⟨#[86, 79, 76, 49]⟩ : ByteArray) ++ root ++ l ++ vint v ++ jT Lf 0) := rfl
      have q4 : (toldT root l 0 Lf v).size ≤ 5000000 := by rw [HTD.out, ByteArray.size_append]; omega
      go_wp2_with fail
      refine (varint_any v wr (by omega)).mono ?_
      rintro e w1 ⟨rfl, hb1⟩
      have HR1 : Hid (Rw w1 gv V 9 (part' v (tX VT) (.string ⟨#[]⟩))) := HRR.out.below hb1 HRR.out.lt
      have HB1' : Hid (Below gv s3 w1) := HBR.out.trans (hb1.mono (Nat.le_of_lt HRR.out.lt))
      clear hb1 HRR HBR HWR
      go_wp2_with fail
      refine (sjoin_any Lf gl 0 0 0 32 w1 (Nat.lt_of_lt_of_le hl3 (Nat.le_of_lt HR1.out.lt)) (Nat.le_refl _) (by omega) (by omega) (fun i _ => HLF.out i) (fun i hi => by rw [Nat.zero_add]; exact (HB1'.out.cell (p := ⟨gl, i, none⟩) hl3).trans (HR3.out.cell i hi))).mono ?_
      rintro e w2 ⟨rfl, hb2⟩
      have HR2' : Hid (Rw w2 gv V 9 (part' v (tX VT) (.string ⟨#[]⟩))) := HR1.out.below hb2 HR1.out.lt
      have HB2' : Hid (Below gv s3 w2) := HB1'.out.trans (hb2.mono (Nat.le_of_lt HR1.out.lt))
      clear hb2 HR1 HB1'
      have c3 : w2.cell? ⟨x, 3, none⟩ = some (.int .i64 V) := cell_of_row _ _ _ _ 23 _ (by rw [HB2'.out.block x hxv, HB3.out.block x hx0]; exact HX0.out)
      go_wp2_with fail
      rw [← HTD.out]
      have HVE : Hid (VT v = toldT root l 0 Lf v ++ ofT kt (⟨#[3]⟩ ++ toldT root l 0 Lf v) ++ jT (fun i => Bk (v * 0 / V + i)) ((v + 1) * 0 / V - v * 0 / V)) := by
        show VT v = _
        rw [← HVT.out]; rfl
      obtain ⟨td, htd⟩ : ∃ td, toldT root l 0 Lf v = td := ⟨_, rfl⟩
      rw [htd] at q4 HVE ⊢
      refine (share_any V 0 v w2 (by omega) hV (by omega) (by omega)).mono ?_
      rintro e w3 ⟨rfl, qq, hq⟩
      have z1 : v * 0 / V = 0 := by rw [Nat.mul_zero, Nat.zero_div]
      have z2 : (v + 1) * 0 / V = 0 := by rw [Nat.mul_zero, Nat.zero_div]
      rw [z1, z2] at HVE ⊢
      clear z1 z2
      have HR3' : Hid (Rw w3 gv V 9 (part' v (tX VT) (.string ⟨#[]⟩))) := by show Rw _ _ _ _ _; rw [hq]; exact HR2'.out
      have HB3' : Hid (Below gv s3 w3) := by show Below _ _ _; rw [hq]; exact below_drewN HB2'.out qq
      clear hq HR2' HB2' c3 htd q1 q2 q3 hjs HTD
      have HW3 : Hid (Below w.heap.size w w3) := HSB.out.trans (HB3'.out.mono (by rw [HGV.out]; exact HSB.out.size))
      have q5 : ((⟨#[3]⟩ : ByteArray) ++ td).size ≤ 6000000 := by
        rw [ByteArray.size_append]
        have : (⟨#[3]⟩ : ByteArray).size = 1 := rfl
        omega
      have HDG : Hid (∀ W, Below gv s3 W → Calls Tryz.prog 125 #[.string (⟨#[3]⟩ ++ td)] W fun e w' => e = .returned (.string (ofT kt (⟨#[3]⟩ ++ td))) ∧ Below W.heap.size W w') := fun W hW => by
        have hg1 := HG.out W (HSB.out.trans (hW.mono (by rw [HGV.out]; exact HSB.out.size)))
        exact of_any kt _ W (by omega) hg1.tab hg1.one
      have HJN : Hid (∀ W, Calls Tryz.prog 184 #[.slice (some ⟨q, 0, none⟩) 0 0, .string ⟨#[]⟩] W fun e w' => e = .returned (.string (jT (fun i => Bk (0 + i)) (0 - 0))) ∧ Below W.heap.size W w') := fun W =>
        (join_none _ 0 ⟨#[]⟩ W).mono fun e w' ⟨h1, h2⟩ => ⟨h1, by rw [h2]; exact Below.refl _ _⟩
      have hds : (ofT kt (⟨#[3]⟩ ++ td)).size ≤ 32 := Nat.le_of_eq (ofT_size kt _)
      have hjs : (jT (fun i => Bk (0 + i)) (0 - 0)).size ≤ 100000000 := by show 0 ≤ _; omega
      obtain ⟨dg, hdg⟩ : ∃ dg, ofT kt (⟨#[3]⟩ ++ td) = dg := ⟨_, rfl⟩
      obtain ⟨jn', hjn⟩ : ∃ jn', jT (fun i => Bk (0 + i)) (0 - 0) = jn' := ⟨_, rfl⟩
      rw [hdg] at HVE HDG hds
      rw [hjn] at HVE HJN hjs
      have q6 : (td ++ dg).size ≤ 6000000 := by rw [ByteArray.size_append]; omega
      clear hdg hjn
      have hvV : (v : Int) < (V : Int) := by omega
      have hvl := HR3'.out.lt
      have k1 := HR3'.out.cell v hlt
      have k2 := HR3'.out.free v
      have HS3 : Hid (gv ≤ w3.heap.size) := Nat.le_of_lt HR3'.out.lt
      have t1 : (⟨#[3]⟩ : ByteArray).size = 1 := rfl
      have k3 : ¬ (9223372036854775807 < (⟨#[3]⟩ : ByteArray).size + td.size) := by omega
      have k3' : ¬ (9223372036854775807 < 1 + td.size) := by omega
      have k4 : ¬ (9223372036854775807 < td.size + dg.size) := by omega
      have k5 : ¬ (9223372036854775807 < (td ++ dg).size + jn'.size) := by omega
      have k5' : ¬ (9223372036854775807 < td.size + dg.size + jn'.size) := by omega
      go_wp2
      go_region_held3 (fun w' => w'.frozen? ⟨gv, v, none⟩ = false) (go_keep) (first | (go_at_call 125; refine Calls.mono (HDG.out _ (by first | exact HB3'.out | exact HB3'.out.drew)) ?_; rintro e r1 ⟨rfl, hbd⟩; have hB1 : Below w3.heap.size w3 r1 := (by first | exact hbd | exact ((Below.refl _ _).drew).trans hbd); have HRa : Hid (Rw r1 gv V 9 (part' v (tX VT) (.string ⟨#[]⟩))) := HR3'.out.below hB1 hvl; have HBa : Hid (Below gv s3 r1) := HB3'.out.trans (hB1.mono HS3.out); have m1 := HRa.out.cell v hlt; have m2 := HRa.out.free v) | (go_at_call 184; refine Calls.mono (HJN.out r1) ?_; rintro e r2 ⟨rfl, hbj⟩; have HRb : Hid (Rw r2 gv V 9 (part' v (tX VT) (.string ⟨#[]⟩))) := HRa.out.below hbj HRa.out.lt; have HBb : Hid (Below gv s3 r2) := HBa.out.trans (hbj.mono (Nat.le_of_lt HRa.out.lt)); have n1 := HRb.out.cell v hlt; have n2 := HRb.out.free v))
      clear n1 n2 m1 m2 k1 k2
      go_wp2
      go_roundw
      case rel => exact ⟨v + 1, by omega, by go_num, (HRb.out.put v _).to (fun j _ => by rw [← HVE.out, ← part_step]; rfl), HBb.out.setCell (Nat.le_refl _) _⟩
      case measure => simp [intOf]; omega
    · have e : v = V := by omega
      subst e
      go_wp2
      go_ret2
      exact ⟨gv, rfl, by rw [HGV.out]; exact HSB.out.size, HRR.out.to (fun j hj => by simp [part', hj]), HWR.out⟩
end Go.Proofs.YtadinjaocnlglaaGreatDoor
namespace Go.Proofs.YtadinjaocnlglaaGreatDoor
open Go.RowKit
set_option maxRecDepth 100000
set_option maxHeartbeats 1000000
def b8 (l : List Nat) : List UInt8 := l.map UInt8.ofNat
/-- the bytes of a number's varint -/
def vi (n : Nat) : List UInt8 := b8 (vb 4 n)
theorem vint_list (n : Nat) : (vint n).data.toList = vi n := by
  unfold vint vi b8
  rw [strOfNums_data, List.map_map]
  apply List.map_congr_left
  intro a _
  simp
theorem drop_get {t : ByteArray} {i : Nat} (h : i < t.size) : t.data.toList.drop i = t[i] :: t.data.toList.drop (i + 1) := by
  rw [List.drop_eq_getElem_cons (by simpa using h)]
  rfl
theorem vb_small (f n : Nat) (h : n < 128) : vb f n = [n] := by
  cases f with
  | zero => rfl
  | succ f => rw [vb, if_pos h]
theorem byte_of {x : UInt8} {b : Nat} (h : x.toNat = b) : x = UInt8.ofNat b := by
  rw [← h]; simp
theorem vrF_dec (t : ByteArray) : ∀ (k i sum : Nat), (vrF t i sum (k + 1)).2 ≠ 0 → ∃ m, (vrF t i sum (k + 1)).1 = sum + m * 128 ^ i ∧ (0 < i → m ≠ 0) ∧ (vrF t i sum (k + 1)).2 = i + (vb k m).length ∧ t.data.toList.drop i = b8 (vb k m) ++ t.data.toList.drop (i + (vb k m).length)
  | k, i, sum, h => by
    rw [vrF] at h ⊢
    by_cases hi : i < t.size
    · rw [dif_pos hi] at h ⊢
      obtain ⟨b, hb⟩ : ∃ b, t[i].toNat = b := ⟨_, rfl⟩
      have hb2 : b < 256 := by rw [← hb]; exact t[i].toNat_lt
      have hd := drop_get hi
      rw [byte_of hb] at hd
      rw [hb] at h ⊢
      by_cases hp : 128 ≤ b
      · rw [if_pos hp] at h ⊢
        cases k with
        | zero => exact absurd rfl h
        | succ k =>
          obtain ⟨m, h1, h2, h3, h4⟩ := vrF_dec t k (i + 1) _ h
          have hm := h2 (by omega)
          have e : vb (k + 1) (b % 128 + 128 * m) = b :: vb k m := by
            rw [vb, if_neg (by omega)]
            have e1 : (b % 128 + 128 * m) % 128 + 128 = b := by omega
            have e2 : (b % 128 + 128 * m) / 128 = m := by omega
            rw [e1, e2]
          refine ⟨b % 128 + 128 * m, ?_, fun _ => by omega, ?_, ?_⟩
          · rw [h1, Nat.pow_succ, Nat.add_mul]
            have : m * (128 ^ i * 128) = 128 * m * 128 ^ i := by rw [Nat.mul_comm 128 m, Nat.mul_assoc, Nat.mul_comm (128 ^ i) 128]
            omega
          · rw [h3, e, List.length_cons]; omega
          · rw [e, hd, h4, List.length_cons]
            have : i + 1 + (vb k m).length = i + ((vb k m).length + 1) := by omega
            rw [this]
            rfl
      · rw [if_neg hp] at h ⊢
        by_cases hc : 4294967295 < sum + b % 128 * 128 ^ i ∨ (b = 0 ∧ 0 < i)
        · rw [if_pos hc] at h; exact absurd rfl h
        · rw [if_neg hc]
          have e : vb k b = [b] := vb_small k b (by omega)
          have hm : b % 128 = b := Nat.mod_eq_of_lt (by omega)
          refine ⟨b, by rw [hm], fun h0 e0 => hc (.inr ⟨e0, h0⟩), by rw [e]; rfl, by rw [e, hd]; rfl⟩
    · rw [dif_neg hi] at h; exact absurd rfl h
theorem vrF_enc (t : ByteArray) (rest : List UInt8) : ∀ (k i sum m : Nat), t.data.toList.drop i = b8 (vb k m) ++ rest → m < 128 ^ (k + 1) → (0 < i → m ≠ 0) → sum + m * 128 ^ i ≤ 4294967295 → vrF t i sum (k + 1) = (sum + m * 128 ^ i, i + (vb k m).length)
  | k, i, sum, m, hd, hm, h0, hs => by
    have hi : i < t.size := by
      rcases Nat.lt_or_ge i t.size with h | h
      · exact h
      · rw [List.drop_of_length_le (by simpa using h)] at hd
        have := congrArg List.length hd
        have hl : 0 < (vb k m).length := by
          cases k with
          | zero => simp [vb]
          | succ k => rw [vb]; split <;> simp
        simp [b8] at this
        omega
    have hd2 := drop_get hi
    rw [hd] at hd2
    rw [vrF, dif_pos hi]
    by_cases hp : m < 128
    · rw [vb_small k m hp] at hd2 ⊢
      have hb : t[i].toNat = m := by
        have := (List.cons.inj hd2).1
        rw [← this]
        simp; omega
      rw [hb, if_neg (by omega)]
      have e : m % 128 = m := Nat.mod_eq_of_lt hp
      rw [e, if_neg (by rintro (h | ⟨h, h'⟩); omega; exact h0 h' h)]
      rfl
    · cases k with
      | zero => exact absurd hm (by simpa using hp)
      | succ k =>
        have e : vb (k + 1) m = (m % 128 + 128) :: vb k (m / 128) := by rw [vb, if_neg hp]
        rw [e] at hd2 ⊢
        obtain ⟨hb, hr⟩ := List.cons.inj hd2
        have hb : t[i].toNat = m % 128 + 128 := by rw [← hb]; simp; omega
        rw [hb, if_pos (by omega)]
        have e1 : (m % 128 + 128) % 128 = m % 128 := by omega
        have e2 : m % 128 * 128 ^ i + m / 128 * 128 ^ (i + 1) = m * 128 ^ i := by
          rw [Nat.pow_succ, Nat.mul_comm (128 ^ i) 128, ← Nat.mul_assoc, ← Nat.add_mul]
          congr 1
          omega
        have hdv : m / 128 < 128 ^ (k + 1) := by
          rw [Nat.div_lt_iff_lt_mul (by omega), ← Nat.pow_succ]
          exact hm
        rw [e1, vrF_enc t rest k (i + 1) (sum + m % 128 * 128 ^ i) (m / 128) hr.symm hdv (fun _ => by omega) (by omega)]
        rw [Nat.add_assoc, e2, List.length_cons]
        congr 1
        omega
theorem vrd_dec {t : ByteArray} (h : (vrd t).2 ≠ 0) : t.data.toList = vi (vrd t).1 ++ t.data.toList.drop (vrd t).2 := by
  obtain ⟨m, h1, _, h3, h4⟩ := vrF_dec t 4 0 0 h
  have e : (vrd t).1 = m := by show (vrF t 0 0 (4 + 1)).1 = m; rw [h1]; simp
  have e2 : (vrd t).2 = (vb 4 m).length := by show (vrF t 0 0 (4 + 1)).2 = _; rw [h3]; simp
  rw [e, e2]
  simpa [vi] using h4
theorem vrd_enc {t : ByteArray} {n : Nat} {rest : List UInt8} (h : t.data.toList = vi n ++ rest) (hn : n ≤ 4294967295) : vrd t = (n, (vi n).length) := by
  have := vrF_enc t rest 4 0 0 n (by rw [List.drop_zero]; exact h) (by omega) (by omega) (by omega)
  show vrF t 0 0 (4 + 1) = _
  rw [this]
  simp [vi, b8]
theorem vi_pos (n : Nat) : 0 < (vi n).length := by
  unfold vi b8
  rw [List.length_map, vb]
  split <;> simp
end Go.Proofs.YtadinjaocnlglaaGreatDoor
namespace Go.Proofs.YtadinjaocnlglaaGreatDoor
open Go.RowKit
set_option maxRecDepth 100000
set_option maxHeartbeats 1000000
/-- the bytes that lie ahead -/
def Ahd (s : RS) : List UInt8 := s.text.data.toList.drop s.next
theorem ext_list (t : ByteArray) (a b : Nat) : (t.extract a b).data.toList = (t.data.toList.drop a).take (b - a) := by
  rw [ByteArray.data_extract, Array.toList_extract, List.extract_eq_take_drop]
theorem ext_end (t : ByteArray) (a : Nat) : (t.extract a t.size).data.toList = t.data.toList.drop a := by
  rw [ext_list, List.take_of_length_le]
  rw [List.length_drop]
  simp
theorem num_dec {s : RS} {lo : Nat} {hi : Int} (h : (s.num lo hi).1.wrong = false) : Ahd s = vi (s.num lo hi).2 ++ Ahd (s.num lo hi).1 := by
  obtain ⟨e, hc⟩ := num_val h
  rw [e]
  have h2 : (vrd (s.text.extract s.next s.text.size)).2 ≠ 0 := fun x => hc (.inl x)
  have h3 := vrd_dec h2
  rw [ext_end] at h3
  show s.text.data.toList.drop s.next = _ ++ s.text.data.toList.drop (s.next + _)
  rw [← List.drop_drop]
  exact h3
theorem bytes_dec {s : RS} {n : Nat} (h : (s.bytes n).1.wrong = false) : Ahd s = (s.bytes n).2.data.toList ++ Ahd (s.bytes n).1 := by
  have hw := bytes_ok h
  have hn : n ≤ s.text.size - s.next := by
    rcases Nat.lt_or_ge (s.text.size - s.next) n with hlt | hge
    · unfold RS.bytes at h
      rw [hw, if_neg (by simp), if_pos hlt] at h
      cases h
    · exact hge
  rw [bytes_val hw hn]
  show s.text.data.toList.drop s.next = (s.text.extract s.next (s.next + n)).data.toList ++ s.text.data.toList.drop (s.next + n)
  rw [ext_list, show s.next + n - s.next = n by omega, ← List.drop_drop, List.take_append_drop]
theorem word_dec {s : RS} {t : ByteArray} (h : (s.word t).wrong = false) : Ahd s = t.data.toList ++ Ahd (s.word t) := by
  unfold RS.word at h ⊢
  by_cases e : (s.bytes t.size).2 = t
  · rw [if_pos e] at h ⊢
    have := bytes_dec h
    rw [e] at this
    exact this
  · rw [if_neg e] at h
    cases h
def enL (l : List (ByteArray × Nat)) : List UInt8 := l.flatMap fun x => vi x.1.size ++ x.1.data.toList ++ vi x.2
theorem enL_cons (x : ByteArray × Nat) (l : List (ByteArray × Nat)) : enL (x :: l) = vi x.1.size ++ x.1.data.toList ++ vi x.2 ++ enL l := by simp [enL]
theorem enL_app (l r : List (ByteArray × Nat)) : enL (l ++ r) = enL l ++ enL r := by simp [enL]
theorem entry_dec {s : RS} {b : ByteArray} {l : Int} (h : (s.entry b l).1.wrong = false) : Ahd s = vi (s.entry b l).2.1.size ++ (s.entry b l).2.1.data.toList ++ vi (s.entry b l).2.2 ++ Ahd (s.entry b l).1 := by
  have h1 := num_dec (s := if leT ((s.num 1 255).1.bytes (s.num 1 255).2).2 b then ((s.num 1 255).1.bytes (s.num 1 255).2).1.refuse else ((s.num 1 255).1.bytes (s.num 1 255).2).1) h
  have h0 := (num_ok h).1
  split at h0
  · cases h0
  · rename_i hl
    rw [if_neg hl] at h1
    have h2 := bytes_dec h0
    have h3 := bytes_ok h0
    have h4 := num_dec h3
    have h5 := bytes_sz h0
    show Ahd s = vi ((s.num 1 255).1.bytes (s.num 1 255).2).2.size ++ ((s.num 1 255).1.bytes (s.num 1 255).2).2.data.toList ++ vi (s.entry b l).2.2 ++ Ahd (s.entry b l).1
    rw [h5, h4, h2, h1, ← List.append_assoc, ← List.append_assoc]
    have e : s.entry b l = (((((s.num 1 255).1.bytes (s.num 1 255).2).1.num 0 l).1), ((s.num 1 255).1.bytes (s.num 1 255).2).2, (((s.num 1 255).1.bytes (s.num 1 255).2).1.num 0 l).2) := by
      show (((if leT ((s.num 1 255).1.bytes (s.num 1 255).2).2 b then ((s.num 1 255).1.bytes (s.num 1 255).2).1.refuse else ((s.num 1 255).1.bytes (s.num 1 255).2).1).num 0 l).1, _, ((if leT ((s.num 1 255).1.bytes (s.num 1 255).2).2 b then ((s.num 1 255).1.bytes (s.num 1 255).2).1.refuse else ((s.num 1 255).1.bytes (s.num 1 255).2).1).num 0 l).2) = _
      rw [if_neg hl]
    rw [e]
theorem ents_dec : ∀ (k : Nat) {s : RS} {nm : ByteArray} {left : Int} {acc : List (ByteArray × Nat)}, (RS.ents k s nm left acc).1.wrong = false → ∃ es, (RS.ents k s nm left acc).2 = acc ++ es ∧ es.length = k ∧ Ahd s = enL es ++ Ahd (RS.ents k s nm left acc).1
  | 0, s, nm, left, acc, _ => ⟨[], by simp [RS.ents], rfl, rfl⟩
  | k + 1, s, nm, left, acc, h => by
    obtain ⟨es, h1, h2, h3⟩ := ents_dec k (s := (s.entry nm left).1) h
    have h4 := entry_dec (ents_ok k _ _ _ _ h)
    refine ⟨((s.entry nm left).2.1, (s.entry nm left).2.2) :: es, ?_, by simp [h2], ?_⟩
    · rw [RS.ents, h1, List.append_assoc]; rfl
    · rw [enL_cons, h4, h3, List.append_assoc _ (enL es) _]; rfl
/-- a list's bytes -/
def lstL (K M C V : Nat) (es : List (ByteArray × Nat)) : List UInt8 := vltT.data.toList ++ vi K ++ vi M ++ vi C ++ vi V ++ vi es.length ++ enL es
theorem list_dec {s : RS} (h : s.list.st.wrong = false) : Ahd s = lstL s.list.K s.list.M s.list.C s.list.V s.list.es ++ Ahd s.list.st := by
  obtain ⟨es, h1, h2, h3⟩ := ents_dec _ (s := (((((s.word ⟨#[86, 76, 84, 49]⟩).num 1 255).1.num 0 (255 - (((s.word ⟨#[86, 76, 84, 49]⟩).num 1 255).2 : Int))).1.num 1 64).1.num 1 16).1.num 0 16 |>.1) h
  have w5 := ents_ok _ _ _ _ _ h
  have w4 := (num_ok w5).1
  have w3 := (num_ok w4).1
  have w2 := (num_ok w3).1
  have w1 := (num_ok w2).1
  have w0 := (num_ok w1).1
  have d5 := num_dec w5
  have d4 := num_dec w4
  have d3 := num_dec w3
  have d2 := num_dec w2
  have d1 := num_dec w1
  have d0 := word_dec w0
  have e : s.list.es = es := h1
  unfold lstL
  rw [e, h2, d0, d1, d2, d3, d4, d5, h3]
  simp only [List.append_assoc]
  rfl
end Go.Proofs.YtadinjaocnlglaaGreatDoor
