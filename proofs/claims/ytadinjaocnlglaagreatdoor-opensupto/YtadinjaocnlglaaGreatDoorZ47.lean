/-
  vault.Open with what its error tells; the document's Open tells the same.
  A hall: opens, Open on both sides.
-/
import Derived.Test.YtadinjaocnlglaaGreatDoorZ46
import Derived.Test.YtadinjaocnlglaaGreatDoorZ38
import Derived.Test.YtadinjaocnlglaaGreatDoorZ31
import Derived.Test.YtadinjaocnlglaaGreatDoorZ30
import Derived.Test.YtadinjaocnlglaaGreatDoorZ16
import Derived.Test.YtadinjaocnlglaaGreatDoorZ45
import Derived.Test.YtadinjaocnlglaaGreatDoorZ18
namespace Go.Proofs.YtadinjaocnlglaaGreatDoor
open Go.RowKit
set_option maxRecDepth 100000
set_option maxHeartbeats 4000000
theorem ErrD3.at {n k p : Int} {v : Value} {w : World} (h : ErrD3 n k p (.returned v) w) : ErrAt w v [(11, n), (10, 0), (k, p)] := by
 obtain ⟨x, y, z, hz, h1, h2, h3⟩ := h
 cases hz
 exact ⟨x, _, rfl, h1, y, _, rfl, h2, z, _, rfl, h3, rfl⟩
def opM (kt : Nat → Int) (rt : ByteArray) (L : Nat → ByteArray) (n : Nat) : List (Int × Int) :=
 if rt.size = 0 ∨ rt.size = 32 then
  match OS.run kt rt 0 (texL L n) OS.new with
  | .error e => [((e.1 : Int), (e.2 : Int))]
  | .ok _ => (11, (n : Int)) :: fsM (if n = 0 then none else sdE kt rt (L 0))
 else [(9, 0)]
theorem opM_len (kt : Nat → Int) (rt : ByteArray) (L : Nat → ByteArray) (n : Nat) : (opM kt rt L n).length ≤ 1000 := by
 unfold opM
 split
 ·split
  ·simp
  ·cases (if n = 0 then none else sdE kt rt (L 0)) <;> simp [fsM]
 ·simp
theorem fs_run (kt : Nat → Int) (rt : ByteArray) (L : Nat → ByteArray) : ∀ n, (RO.run kt rt 0 (texL L n) RO.new).fs = if n = 0 then none else sdE kt rt (L 0)
 | 0 => rfl
 | n + 1 => by
  have ih := fs_run kt rt L n
  rw [texL_succ, RO.run_snoc, texL_len, Nat.zero_add, if_neg (by omega)]
  generalize RO.run kt rt 0 (texL L n) RO.new = r at ih
  unfold RO.step
  cases hs : sdE kt rt (L n) with
  | some e =>
   show (if n = 0 then some e else r.fs) = _
   by_cases h0 : n = 0
   ·subst h0; rw [if_pos rfl, hs]
   ·rw [if_neg h0, ih, if_neg h0]
  | none =>
   have : r.fs = sdE kt rt (L 0) := by
    by_cases h0 : n = 0
    ·subst h0; rw [ih, if_pos rfl, hs]
    ·rw [ih, if_neg h0]
   cases jnK r.hs (L n) <;> exact this
def VOp2 (kt : Nat → Int) (rt : ByteArray) (L : Nat → ByteArray) (n : Nat) (w : World) (e : Ending) (w' : World) : Prop := Below w.heap.size w w' ∧
 ((∃ er, e = .returned (.tuple #[.pointer none, er]) ∧ ErrAt w' er (opM kt rt L n) ∧ ∀ s t0, ¬ Opn kt rt L n s t0) ∨ ∃ v, e = .returned (.tuple #[.pointer (some ⟨v, 0, none⟩), .nilIface]) ∧ VNew kt rt L n w.heap.size v w')
theorem vopen2 (kt : Nat → Int) (rt : ByteArray) (L : Nat → ByteArray) (n : Nat) (v : Value) (w : World) (hG : Gd kt w) (hn : n ≤ 10000000000000) (hL : ∀ i, i < n → (L i).size ≤ 140737488351232) (hv : (n = 0 ∧ v = .slice none 0 0) ∨ ∃ b cap, v = .slice (some ⟨b, 0, none⟩) n cap ∧ b < w.heap.size ∧ Cl w b n (tI L)) :
  Calls Tryz.prog 60 #[v, .string rt] w fun e w' => VOp2 kt rt L n w e w' := by
 have HS : Hid (Calls Tryz.prog 104 #[v, .string rt] w fun e w' => Below w.heap.size w w' ∧ ((∃ z, e = .returned (.tuple #[.pointer none, .iface 305 (.pointer (some ⟨z, 0, none⟩))]) ∧ ErrAt w' (.iface 305 (.pointer (some ⟨z, 0, none⟩))) (opM kt rt L n) ∧ ∀ s t0, ¬ Opn kt rt L n s t0) ∨ ∃ k s t0 g p q f un, e = .returned (.tuple #[.pointer (some ⟨k, 0, none⟩), .nilIface]) ∧ Opn kt rt L n s t0 ∧ rdE kt t0 = none ∧ (w.heap.size ≤ q ∧ w.heap.size ≤ f) ∧ VS kt w.heap.size k g p q f (RS.on t0).told un s.un s.rd s.bl (fun _ => false) (fun _ => 0) (fun _ => .slice none 0 0) w')) := by
  unfold opM
  by_cases hrt : rt.size = 0 ∨ rt.size = 32
  ·rw [if_pos hrt]
   rcases hv with ⟨rfl, rfl⟩ | ⟨b, cap, rfl, hb, hC⟩
   ·refine Calls.mono (sopen_nil rt w hrt) ?_
    rintro e w' ⟨v, rfl, ⟨z, hz, hzz⟩, hB⟩
    cases hz
    refine ⟨hB, .inl ⟨z, rfl, ?_, fun s t0 ho => ?_⟩⟩
    ·exact ⟨z, .nilIface, rfl, hzz, rfl⟩
    ·obtain ⟨_, h1, h2⟩ := ho
     cases h1
     cases h2
   ·refine Calls.mono (sopen kt rt L b n cap w hG hb hC hn hL hrt) ?_
    rintro e w' ⟨hO, hB⟩
    refine ⟨hB, ?_⟩
    unfold OpD at hO
    cases hr : OS.run kt rt 0 (texL L n) OS.new with
    | error ab =>
     obtain ⟨a, b'⟩ := ab
     rw [hr] at hO
     obtain ⟨v, rfl, z, hz, hzz⟩ := hO
     cases hz
     exact .inl ⟨z, rfl, ⟨z, .nilIface, rfl, hzz, rfl⟩, fun s t0 ho => by have := ho.2.1; rw [hr] at this; cases this⟩
    | ok s =>
     rw [hr] at hO
     rcases hO with ⟨hd, v, rfl, h0, h1⟩ | ⟨hd, k, rfl, hI⟩
     ·have hno : ∀ s' t0, ¬ Opn kt rt L n s' t0 := fun s' t0 ho => by have := ho.2.1; rw [hr] at this; cases this; have := ho.2.2; rw [hd] at this; cases this
      rcases Nat.eq_zero_or_pos n with hn0 | hn0
      ·obtain ⟨z, hz, hzz⟩ := h0 hn0
       cases hz
       subst hn0
       exact .inl ⟨z, rfl, ⟨z, .nilIface, rfl, hzz, rfl⟩, hno⟩
      ·have hb := first_bad hr hn0 hd
       cases hs : sdE kt rt (L 0) with
       | none => exact absurd hs hb
       | some kp =>
        have h3 := h1 hn0 kp.1 kp.2 hs
        have h4 := ErrD3.at h3
        obtain ⟨x, y, z, hz, _⟩ := h3
        cases hz
        refine .inl ⟨_, rfl, ?_, hno⟩
        show ErrAt _ _ ((11, (n : Int)) :: fsM (if n = 0 then none else some kp))
        rw [if_neg (by omega)]
        exact h4
     ·obtain ⟨un, hun, hc⟩ := hI
      rcases hc with ⟨e, _⟩ | ⟨t0, g, p, q, f, hd0, hr0, hpB, hqB, hfB, hS⟩
      ·exact absurd e hd
      ·exact .inr ⟨k, s, t0, g, p, q, f, un, rfl, ⟨hrt, hr, hd0⟩, hr0, ⟨hqB, hfB⟩, hS.vs hun⟩
  ·rw [if_neg hrt]
   refine Calls.mono (sopen_root rt v w (fun e => hrt (.inl e)) (fun e => hrt (.inr e))) ?_
   rintro e w' ⟨z, rfl, hz, hB⟩
   exact ⟨hB, .inl ⟨z, rfl, ⟨z, .nilIface, rfl, hz, rfl⟩, fun s t0 ho => hrt ho.1⟩⟩
 clear hG hn hL hv
 go_enter Tryz.func60, Tryz.ntmps60
 go_wp2_with fail
 refine Calls.mono HS.out ?_
 rintro e w1 ⟨hB, ⟨z, rfl, hE, hno⟩ | ⟨k, s, t0, g, p, q, f, un, rfl, hop, hr0, hq, hV⟩⟩
 ·have HB : Hid _ := hB
  have HN : Hid _ := hno
  have HE : Hid _ := hE
  clear hB hno hE
  go_wp2_with fail
  go_ret2
  exact ⟨HB.out, .inl ⟨_, rfl, HE.out, HN.out⟩⟩
 ·have hbA : Below w1.heap.size w1 (w1.alloc (.cells (wC 0 k) 159)) := (Below.refl _ _).alloc (Nat.le_refl _) _
  have HE : Hid (VNew kt rt L n w.heap.size w1.heap.size (w1.alloc (.cells (wC 0 k) 159))) := ⟨s, t0, k, g, p, q, f, un, hop, hr0, hB.size, hq, heap_alloc_new _ _, hV.below hbA⟩
  have HB : Hid (Below w.heap.size w (w1.alloc (.cells (wC 0 k) 159))) := hB.trans (hbA.mono hB.size)
  clear hB hop hr0 hq hV hbA
  go_wp2_with fail
  go_ret2
  exact ⟨HB.out, .inr ⟨w1.heap.size, rfl, HE.out⟩⟩
def RNo (kt : Nat → Int) (rt : ByteArray) (L : Nat → ByteArray) (n : Nat) (w : World) (e : Ending) (w' : World) : Prop :=
 ∃ m, e = .returned (.tuple #[.pointer none, m]) ∧ Below w.heap.size w w' ∧ Mk w' w.heap.size m (opM kt rt L n)
def RYes (kt : Nat → Int) (n : Nat) (t0 : ByteArray) (s : OS) (w : World) (e : Ending) (w' : World) : Prop :=
 ∃ v vH vU hp, e = .returned (.tuple #[.pointer (some ⟨v, 0, none⟩), .slice none 0 0]) ∧ Below w.heap.size w w' ∧ RV kt w v vH vU hp s.un w' ∧ RSet kt t0 (hp.map Prod.fst) ∧ (∀ v, s.rd v = true ↔ ∃ x ∈ hp.map Prod.fst, (tT x).num = v) ∧ s.bl = blH (hp.map Prod.fst) ∧ s.un.length ≤ n ∧ hp.length ≤ n
theorem ROD.no {kt : Nat → Int} {rt : ByteArray} {L : Nat → ByteArray} {n : Nat} {w w' : World} {e : Ending} (h : ROD kt rt L n w e w') (hno : ∀ s t0, ¬ Opn kt rt L n s t0) : RNo kt rt L n w e w' := by
 obtain ⟨p, m, rfl, hb, hc⟩ := h
 rcases hc with ⟨h0, h32, rfl, hm⟩ | ⟨hrt, hc⟩
 ·refine ⟨m, rfl, hb, ?_⟩
  unfold opM
  rw [if_neg (by omega)]
  exact hm
 ·rcases run_eq kt rt (texL L n) 0 RO.new OS.new OEq.new with ⟨s, hs, hE⟩ | ⟨er, hs, hcl, hh⟩
  ·rcases hc with ⟨h1, rfl, hm⟩ | ⟨h1, h2, rfl, hm⟩ | ⟨h1, h2, _⟩
   ·refine ⟨m, rfl, hb, ?_⟩
    rw [fs_run] at hm
    unfold opM
    rw [if_pos hrt, hs]
    exact hm
   ·exact absurd hE.cl h2
   ·exfalso
    cases hh : (RO.run kt rt 0 (texL L n) RO.new).hs with
    | nil => exact h1 hh
    | cons t0 r => exact hno s t0 ⟨hrt, hs, by rw [hE.hd, hh]; rfl⟩
  ·rcases hc with ⟨h1, _⟩ | ⟨h1, h2, rfl, hm⟩ | ⟨h1, h2, _⟩
   ·exact absurd h1 hh
   ·refine ⟨m, rfl, hb, ?_⟩
    rw [hcl] at hm
    unfold opM
    rw [if_pos hrt, hs]
    exact hm
   ·rw [hcl] at h2; cases h2
theorem ROD.yes {kt : Nat → Int} {rt : ByteArray} {L : Nat → ByteArray} {n : Nat} {w w' : World} {e : Ending} {s : OS} {t0 : ByteArray} (h : ROD kt rt L n w e w') (ho : Opn kt rt L n s t0) : RYes kt n t0 s w e w' := by
 obtain ⟨p, m, rfl, hb, hc⟩ := h
 obtain ⟨hrt, hs, hd⟩ := ho
 rcases hc with ⟨h0, h32, _⟩ | ⟨_, hc⟩
 ·omega
 ·rcases run_eq kt rt (texL L n) 0 RO.new OS.new OEq.new with ⟨s', hs', hE⟩ | ⟨er, hs', _⟩
  ·rw [hs] at hs'
   cases hs'
   have hhd := hE.hd
   rw [hd] at hhd
   rcases hc with ⟨h1, _⟩ | ⟨_, h2, _⟩ | ⟨h1, h2, rfl, v, vH, vU, hp, rfl, hV, hm⟩
   ·rw [h1] at hhd; cases hhd
   ·exact absurd hE.cl h2
   ·refine ⟨v, vH, vU, hp, rfl, hb, by rw [hE.un]; exact hV, ?_, ?_, ?_, ?_, ?_⟩
    ·rw [hm]
     exact (RIn.run _ 0 _ (RIn.new kt)).set hhd.symm
    ·rw [hm]; exact hE.rd
    ·rw [hm]; exact hE.bl
    ·rw [hE.un]; exact un_len kt rt L n
    ·have h3 := hs_len kt rt L n
     rw [← hm, List.length_map] at h3
     exact h3
  ·rw [hs] at hs'; cases hs'
theorem info147 : (Tryz.prog.info? 147).map (fun i => (i.zero, i.size, i.bytes)) = some (some (.agg #[.pointer none, .pointer none]), 2, 16) := by kernel_rfl
theorem VS.entB {kt : Nat → Int} {B k g p q f : Nat} {T : TT} {un : Value} {ul : List Nat} {rd : Nat → Bool} {bl : Nat → ByteArray} {dn : Nat → Bool} {zs : Nat → Nat} {bd : Nat → Value} {w : World} (h : VS kt B k g p q f T un ul rd bl dn zs bd w) {j : Nat} (hj : EntB g w j) : B ≤ j := by
 obtain ⟨aE, kE, num, first, vB, h1, h2⟩ := h.hd
 obtain ⟨cs, v, e1, e2, e3⟩ := hj
 rw [h1] at e1
 simp only [Option.some.injEq, Obj.cells.injEq] at e1
 rw [← e1.1] at e2
 have e4 : v = .slice aE T.L.es.length kE := by
  have : (volC T.root T.lst T.L.K T.L.M T.L.C T.L.V (.slice aE T.L.es.length kE) T.lv num first vB)[6]? = some (.slice aE T.L.es.length kE) := rfl
  rw [this] at e2
  exact (Option.some.inj e2).symm
 subst e4
 exact own_ge h2 j e3
theorem VS.outB {kt : Nat → Int} {B k g p q f : Nat} {T : TT} {un : Value} {ul : List Nat} {rd : Nat → Bool} {bl : Nat → ByteArray} {dn : Nat → Bool} {zs : Nat → Nat} {bd : Nat → Value} {w : World} (h : VS kt B k g p q f T un ul rd bl dn zs bd w) {j : Nat} (hj : outV un bd dn T.L.ns j) : B ≤ j := by
 rcases hj with e | ⟨s, hs, hd, e⟩
 ·exact own_ge h.unO j e
 ·exact own_ge (h.fn s hs hd).2 j e
theorem VNew.still {kt : Nat → Int} {rt : ByteArray} {L : Nat → ByteArray} {n B v g1 : Nat} {w w' : World} (h : VNew kt rt L n B v w) (hg : g1 < B) (hk : ∀ j, j ≠ g1 → w'.heap[j]? = w.heap[j]?) (h9 : ∃ cs, w.heap[g1]? = some (.cells cs 9 (0, 0))) : VNew kt rt L n B v w' := by
 obtain ⟨s, t0, k, g, p, q, f, un, h1, h2, h3, h4, h5, h6⟩ := h
 obtain ⟨cs9, h9⟩ := h9
 refine ⟨s, t0, k, g, p, q, f, un, h1, h2, h3, h4, (hk v (by omega)).trans h5, VS.kz (t5 := 191) (z := some g1) h6 (fun j cs t hj _ _ hz => ?_) (.inl rfl) (fun j hj => ?_)⟩
 ·rw [hk j (fun e => hz (by rw [e]))]; exact hj
 ·have hj' : g1 = j := Option.some.inj hj
  subst hj'
  refine ⟨⟨cs9, 9, h9, by simp⟩, by omega, fun e => ?_, fun e => ?_⟩
  ·have := h6.outB e; omega
  ·have := h6.entB e; omega
theorem BkI.put0 {base B : Nat} {l0 lo : Value} {bk : Bk} {w w2 : World} (h : BkI base B l0 lo bk w) (hk : ∀ (j : Nat) (cs : Array Value) (t : TypeId), w.heap[j]? = some (.cells cs t (0, 0)) → t ≠ 147 → w2.heap[j]? = some (.cells cs t (0, 0))) (hsz : w.heap.size ≤ w2.heap.size) (v' : Value) : BkI base B v' lo bk (w2.setCell ⟨B, 0, none⟩ v') := by
 obtain ⟨vT, vI, vO, vE, h1, h2, h3, h4, h5⟩ := h.row
 have h1' := hk _ _ _ h1 (by decide)
 have hgo : ∀ (j : Nat) (cs : Array Value) (t : TypeId), w.heap[j]? = some (.cells cs t (0, 0)) → t ≠ 147 → t ≠ 50 → (w2.setCell ⟨B, 0, none⟩ v').heap[j]? = some (.cells cs t (0, 0)) := fun j cs t hj a b => by
  rw [set_other _ _ _ _ _ (row_ne (hk j cs t hj a) h1' b)]
  exact hk j cs t hj a
 have hsz' : w.heap.size ≤ (w2.setCell ⟨B, 0, none⟩ v').heap.size := by rw [show (w2.setCell ⟨B, 0, none⟩ v').heap.size = w2.heap.size by simp [World.setCell]]; exact hsz
 refine ⟨⟨vT, vI, vO, vE, ?_, own_kept' h2 (fun j cs _ hj => hgo j cs _ hj (by decide) (by decide)), own_kept' h3 (fun j cs _ hj => hgo j cs _ hj (by decide) (by decide)), own_kept' h4 (fun j cs _ hj => hgo j cs _ hj (by decide) (by decide)), own_kept' h5 (fun j cs _ hj => hgo j cs _ hj (by decide) (by decide))⟩, fun e he => ?_, fun e he => ?_, fun e he => ?_, fun e he => ?_⟩
 ·have h6 := set_heap w2 B 0 v' _ _ _ h1'
  simpa using h6
 ·obtain ⟨a, b, c⟩ := h.T e he
  exact ⟨a.kept (fun q cur _ hc => by rw [hgo q cur 9 hc (by decide) (by decide), hc]), b, fun q hq' => ⟨(c q hq').1, Nat.lt_of_lt_of_le (c q hq').2 hsz'⟩⟩
 ·obtain ⟨a, b, c⟩ := h.I e he
  exact ⟨a.kept (fun q cur _ hc => by rw [hgo q cur 3 hc (by decide) (by decide), hc]), b, fun q hq' => ⟨(c q hq').1, Nat.lt_of_lt_of_le (c q hq').2 hsz'⟩⟩
 ·obtain ⟨a, b, c⟩ := h.O e he
  exact ⟨a.kept (fun q cur _ hc => by rw [hgo q cur 72 hc (by decide) (by decide), hc]), b, fun q hq' => ⟨(c q hq').1, Nat.lt_of_lt_of_le (c q hq').2 hsz'⟩⟩
 ·obtain ⟨a, b, c⟩ := h.E e he
  exact ⟨a.kept (fun q cur _ hc => by rw [hgo q cur 70 hc (by decide) (by decide), hc]), b, fun q hq' => ⟨(c q hq').1, Nat.lt_of_lt_of_le (c q hq').2 hsz'⟩⟩
theorem HK.add {kt : Nat → Int} {base h : Nat} {lost : Bool} {ds : List Dr} {bk : Bk} {w0 w : World} {d : Dr} (H0 : HK kt base h lost ds bk noZ w0) (hb : Below w0.heap.size w0 w) (hfit : d.fit kt) (hat : d.at kt base noZ w) (hge : w0.heap.size ≤ d.v ∧ w0.heap.size ≤ d.q ∧ w0.heap.size ≤ d.f ∧ w0.heap.size ≤ d.C) (hds : ds.length ≤ 1000000) :
  ∃ a c v' w2, w.cell? ⟨h, 0, none⟩ = some (.slice a ds.length c) ∧ (Builtin.append_ #[48, 48] 48 #[.slice a ds.length c, .slice (some ⟨w.heap.size, 0, none⟩) 1 1]).run Tryz.prog (w.alloc (.cells #[.pointer (some ⟨d.v, 0, none⟩), .pointer (some ⟨d.y, 0, none⟩)] 147)) = .ok v' w2 ∧ (∃ a2 c2, v' = .slice a2 (ds.length + 1) c2) ∧ (∃ u, w2.cell? ⟨h, 0, none⟩ = some u) ∧ w2.frozen? ⟨h, 0, none⟩ = false ∧ w2.cell? ⟨h, 6, none⟩ = some (.bool lost) ∧ HK kt base h lost (ds ++ [d]) bk noZ (w2.setCell ⟨h, 0, none⟩ v') ∧ Below base w0 (w2.setCell ⟨h, 0, none⟩ v') := by
 have H := H0.low hb
 obtain ⟨l0, hB, ho⟩ := H.book
 obtain ⟨a, c, rfl⟩ := own_shape ho
 obtain ⟨vT, vI, vO, vE, h1, _⟩ := hB.row
 obtain ⟨w1, hw1⟩ : ∃ w1, w.alloc (.cells #[.pointer (some ⟨d.v, 0, none⟩), .pointer (some ⟨d.y, 0, none⟩)] 147) = w1 := ⟨_, rfl⟩
 have hb1 : Below w.heap.size w w1 := by rw [← hw1]; exact (Below.refl _ _).alloc (Nat.le_refl _) _
 have hnew : w1.ownsRow w.heap.size 147 2 (.slice (some ⟨w.heap.size, 0, none⟩) 1 1) 1 [.pointer (some ⟨d.v, 0, none⟩), .pointer (some ⟨d.y, 0, none⟩)] := by
  rw [← hw1]
  exact ⟨rfl, .inr ⟨w.heap.size, 1, #[.pointer (some ⟨d.v, 0, none⟩), .pointer (some ⟨d.y, 0, none⟩)], rfl, Nat.le_refl _, heap_alloc_new _ _, Nat.le_refl _, by unfold maxLen; omega, rfl, rfl⟩⟩
 have ho1 := own_kept ho (fun q hq => hb1.block q (own_lt ho q hq))
 obtain ⟨i0, hi0, z0, z1, z2⟩ := info_parts info147
 obtain ⟨v', w2, hrun, ho2, hg, halt⟩ := app_rows 48 Tryz.underlying48 hi0 z0 z1 z2 rfl (by decide) ho1 hnew (by intro u hu; simp at hu; rcases hu with rfl | rfl <;> rfl) (by omega) (by omega) (Nat.le_trans H.bw hb1.size)
 have hgo : ∀ (j : Nat) (cs : Array Value) (t : TypeId), w.heap[j]? = some (.cells cs t (0, 0)) → t ≠ 147 → w2.heap[j]? = some (.cells cs t (0, 0)) := fun j cs t hj ht => by
  have hjl := (Array.getElem?_eq_some_iff.1 hj).1
  rw [hg.block j (Nat.lt_of_lt_of_le hjl hb1.size) (fun e => by
   obtain ⟨cur, hcur⟩ := own_type ho j e.symm
   exact row_ne hj hcur ht rfl), hb1.block j hjl]
  exact hj
 have hsz : w.heap.size ≤ w2.heap.size := Nat.le_trans hb1.size hg.size
 have h1' := hgo _ _ _ h1 (by decide)
 have hss : (w2.setCell ⟨h, 0, none⟩ v').heap.size = w2.heap.size := by simp [World.setCell]
 have hgo2 : ∀ (j : Nat) (cs : Array Value) (t : TypeId), w.heap[j]? = some (.cells cs t (0, 0)) → t ≠ 147 → t ≠ 50 → (w2.setCell ⟨h, 0, none⟩ v').heap[j]? = some (.cells cs t (0, 0)) := fun j cs t hj e1 e2 => by
  rw [set_other _ _ _ _ _ (row_ne (hgo j cs t hj e1) h1' e2)]
  exact hgo j cs t hj e1
 have hkz : Kz 147 none w (w2.setCell ⟨h, 0, none⟩ v') := fun j cs t hj e50 e147 _ => hgo2 j cs t hj e147 e50
 have hbel : Below base w (w2.setCell ⟨h, 0, none⟩ v') := ((hb1.mono H.bw).grown hg (Nat.le_trans H.bw hb1.size) (fun q hq => own_ge ho q hq)).setCell (p := ⟨h, 0, none⟩) H.lo _
 have hl2 : ds.length + 1 = (ds ++ [d]).length := by simp
 refine ⟨a, c, v', w2, cell_of_row _ _ _ _ 50 _ h1, by rw [hw1]; exact hrun, own_shape ho2, ⟨_, cell_of_row _ _ _ _ 50 _ h1'⟩, frozen_of_row _ _ _ _ 50 h1', cell_of_row _ _ _ _ 50 _ h1', ⟨H.lo, H.bs, Nat.le_trans H.bw hbel.size, ⟨v', hB.put0 hgo hsz v', ?_⟩, fun x hx => ?_, fun x hx => ?_, ?_, fun j hj x hx => ?_, H.glb.low H.bs hbel⟩, (hb.mono H0.bw).trans hbel⟩
 ·rw [← hl2]
  have e : drV (ds ++ [d]) = drV ds ++ [.pointer (some ⟨d.v, 0, none⟩), .pointer (some ⟨d.y, 0, none⟩)] := by simp [drV]
  rw [e]
  exact own_kept' ho2 (fun j cs _ hj => by rw [set_other _ _ _ _ _ (row_ne hj h1' (by decide))]; exact hj)
 ·rcases List.mem_append.1 hx with hx | hx
  ·exact H.fit x hx
  ·rw [List.mem_singleton.1 hx]; exact hfit
 ·have hz : ∀ j, (none : Option Nat) = some j → noZ j ∧ ∃ cs t, w.heap[j]? = some (.cells cs t (0, 0)) ∧ (t = 3 ∨ t = 9 ∨ t = 70 ∨ t = 72) := fun j e => by cases e
  rcases List.mem_append.1 hx with hx | hx
  ·exact (H.here x hx).kz hkz (by decide) hz hbel.size
  ·rw [List.mem_singleton.1 hx]; exact hat.kz hkz (by decide) hz hbel.size
 ·refine List.pairwise_append.2 ⟨H.ne, List.pairwise_singleton _ _, fun x hx y hy => ?_⟩
  rw [List.mem_singleton.1 hy]
  have hA := H0.here x hx
  obtain ⟨dn, zs, bd, hV, _⟩ := hA.vs
  have l1 := hV.blR.lt
  have l2 := hV.fiR.lt
  have l3 := (Array.getElem?_eq_some_iff.1 hA.vl).1
  have l4 := hA.yl
  obtain ⟨g1, g2, g3, g4⟩ := hge
  exact ⟨by omega, by omega, by omega, fun j _ h2 => by omega, fun j h2 _ => by omega⟩
 ·rcases List.mem_append.1 hx with hx | hx
  ·exact H.far j hj x hx
  ·rw [List.mem_singleton.1 hx]
   obtain ⟨l0', hB0, _⟩ := H0.book
   have := (hB0.lt hj).2
   obtain ⟨g1, g2, g3, g4⟩ := hge
   exact ⟨by omega, by omega, by omega⟩
theorem RawT.inn {w : World} {a : Option Addr} {n cap : Nat} {L : Nat → ByteArray} (h : RawT w a n cap L) : In w a n L ∧ (a.isNone = true → n = 0) := by
 rcases h with ⟨rfl, rfl, rfl⟩ | ⟨ad, rfl, hc⟩
 ·exact ⟨fun i hi => absurd hi (by omega), fun _ => rfl⟩
 ·exact ⟨fun i hi => by obtain ⟨b, off, rfl, h1, h2⟩ := hc i hi; exact ⟨b, off, rfl, h1, h2⟩, fun e => by cases e⟩
theorem RawT.low {w w' : World} {a : Option Addr} {n cap : Nat} {L : Nat → ByteArray} (h : RawT w a n cap L) (hb : Below w.heap.size w w') : RawT w' a n cap L := by
 rcases h with h | ⟨ad, rfl, hc⟩
 ·exact .inl h
 ·refine .inr ⟨ad, rfl, fun i hi => ?_⟩
  obtain ⟨b, off, e, h1, h2⟩ := hc i hi
  exact ⟨b, off, e, Nat.lt_of_lt_of_le h1 hb.size, (hb.cell (p := ⟨b, off + i, none⟩) h1).trans h2⟩
theorem LentAt.low {w w' : World} {x g1 g2 n : Nat} {nl : Bool} {L : Nat → ByteArray} (h : LentAt w x g1 g2 n nl L) (hb : Below w.heap.size w w') : LentAt w' x g1 g2 n nl L :=
 ⟨(hb.block _ (Array.getElem?_eq_some_iff.1 h.obj).1).trans h.obj, h.all.below hb h.all.lt, h.want.below hb h.want.lt, h.ne⟩
theorem HK.c6 {kt : Nat → Int} {base h : Nat} {lost : Bool} {ds : List Dr} {bk : Bk} {Z : Nat → Prop} {w : World} (H : HK kt base h lost ds bk Z w) : w.cell? ⟨h, 6, none⟩ = some (.bool lost) := by
 obtain ⟨l0, hB, _⟩ := H.book
 obtain ⟨vT, vI, vO, vE, h1, _⟩ := hB.row
 exact cell_of_row _ _ _ _ 50 _ h1
theorem hopens (kt : Nat → Int) (base h : Nat) (lost : Bool) (ds : List Dr) (bk : Bk) (rt : ByteArray) (L : Nat → ByteArray) (a : Option Addr) (n cap : Nat) (w : World) (H : HK kt base h lost ds bk noZ w) (hQ : lost = true → ∀ (er : Value) (l : List (Int × Int)) (X : World), Ge X → ErrAt X er l → l.length ≤ 1000 → Calls Tryz.prog 65 #[er] X fun e w' => e = .returned (.bool true) ∧ Below X.heap.size X w') (hn : n ≤ 100000000) (hL : ∀ i, i < n → (L i).size ≤ 140737488351232) (hR : RawT w a n cap L) (hds : ds.length ≤ 1000000) :
  Calls Tryz.prog 19 #[.pointer (some ⟨h, 0, none⟩), .slice a n cap, .string rt] w fun e w' => e = .returned (.bool true) ∧ Below base w w' ∧ ∃ ds', HK kt base h lost ds' bk noZ w' ∧ (ds' = ds ∨ ∃ d, ds' = ds ++ [d]) := by
 obtain ⟨hI, hnl⟩ := hR.inn
 have HLE : Hid (Calls Tryz.prog 59 #[.slice a n cap] w fun e w' => ∃ g1 g2, e = .returned (.pointer (some ⟨w.heap.size, 0, none⟩)) ∧ w.heap.size < g1 ∧ w.heap.size < g2 ∧ LentAt w' w.heap.size g1 g2 n a.isNone L ∧ Below w.heap.size w w') := lent_any L a n cap w (by omega) hI
 have HH : Hid _ := H
 have HR : Hid (RawT w a n cap L) := hR
 have HL : Hid _ := hL
 have HQ : Hid _ := hQ
 have HNL : Hid _ := hnl
 obtain ⟨x, hx⟩ : ∃ x, w.heap.size = x := ⟨_, rfl⟩
 have HX : Hid (w.heap.size = x) := hx
 rw [hx] at HLE
 clear H hR hL hQ hI hnl
 go_enter Tryz.func19, Tryz.ntmps19
 go_wp2_with fail
 refine Calls.mono HLE.out ?_
 rintro e w1 ⟨g1, g2, rfl, hg1, hg2, hLa, hb1⟩
 have HLI : Hid (Calls Tryz.prog 61 #[.pointer (some ⟨x, 0, none⟩)] w1 fun e w' => ∃ v, e = .returned v ∧ (∃ q, w' = w1.drewN q) ∧ ((v = .slice none 0 0 ∧ n = 0) ∨ v = .slice (some ⟨g1, 0, none⟩) n (n + 8))) := list_any L x g1 g2 n a.isNone w1 (by omega) hLa HNL.out
 have HLA : Hid _ := hLa
 have HB1 : Hid (Below w.heap.size w w1) := by rw [HX.out]; exact hb1
 clear hLa hb1
 go_wp2_with fail
 refine Calls.mono HLI.out ?_
 rintro e w2 ⟨v, rfl, ⟨q, hw2⟩, hv⟩
 have hb2 : Below w1.heap.size w1 w2 := by rw [hw2]; exact below_drewN (Below.refl _ _) q
 have HLA2 : Hid _ := HLA.out.low hb2
 have HB2 : Hid _ := HB1.out.trans (hb2.mono HB1.out.size)
 have HVO : Hid (Calls Tryz.prog 60 #[v, .string rt] w2 fun e w' => VOp2 kt rt L n w2 e w') := vopen2 kt rt L n v w2 (HH.out.low HB2.out).glb.gd (by omega) HL.out (by
  rcases hv with ⟨e1, e2⟩ | e1
  ·exact .inl ⟨e2, e1⟩
  ·refine .inr ⟨g1, _, e1, HLA2.out.all.lt, fun i hi => ?_⟩
   have h3 := HLA2.out.all.cell i (by omega)
   rw [h3]
   show some (Value.string (if i < n then L i else bhdT)) = _
   rw [if_pos hi]
   rfl)
 clear hw2 hb2 hv
 go_wp2_with fail
 refine Calls.mono HVO.out ?_
 rintro e w3 ⟨hb3, hc⟩
 have HB3 : Hid _ := HB2.out.trans (hb3.mono HB2.out.size)
 have HLA3 : Hid _ := HLA2.out.low hb3
 have h9 : ∃ cs, w3.heap[g1]? = some (.cells cs 9 (0, 0)) := ⟨_, HLA3.out.all⟩
 have HG1 : Hid (g1 < w2.heap.size) := HLA2.out.all.lt
 have HSZ2 : Hid (x ≤ w2.heap.size) := by rw [← HX.out]; exact HB2.out.size
 have HST : Hid (Calls Tryz.prog 62 #[.pointer (some ⟨x, 0, none⟩)] w3 fun e w' => e = .returned (.bool true) ∧ Below x w3 w' ∧ ∀ q, q ≠ g1 → w'.heap[q]? = w3.heap[q]?) := still_any L x g1 g2 n x a.isNone w3 (by omega) HLA3.out (Nat.le_of_lt hg1) (by omega)
 have H9 : Hid _ := h9
 clear hb3 h9
 rcases hc with ⟨er, rfl, hE, hno⟩ | ⟨v, rfl, hVN⟩
 ·have HE : Hid _ := hE
  have HNO : Hid _ := hno
  clear hE hno
  go_wp2_with fail
  refine Calls.mono HST.out ?_
  rintro e w4 ⟨rfl, hb4, hk4⟩
  have hB4 : Below w.heap.size w w4 := HB3.out.trans (by rw [HX.out]; exact hb4)
  have HE4 : Hid (ErrAt w4 er (opM kt rt L n)) := ErrAt.kept (fun e cs he => hk4 e (fun e1 => by
   obtain ⟨cs9, h9⟩ := H9.out
   subst e1
   exact row_ne he h9 (by decide) rfl)) HE.out
  have HRO : Hid (Calls Tryz.prog 63 #[.slice a n cap, .string rt] w4 fun e w' => RNo kt rt L n w4 e w') := (ropen kt rt L a n cap w4 (HH.out.low hB4).glb.gr hn HL.out (HR.out.low hB4)).mono fun e w' h => h.no HNO.out
  have HB4 : Hid _ := hB4
  clear hb4 hk4 hB4
  go_wp2_with fail
  refine Calls.mono HRO.out ?_
  rintro e w5 ⟨m, rfl, hb5, hm⟩
  have hB5 : Below w.heap.size w w5 := HB4.out.trans (hb5.mono HB4.out.size)
  have HE5 : Hid (ErrAt w5 er (opM kt rt L n)) := HE4.out.below hb5
  have HTO : Hid (Calls Tryz.prog 64 #[er, m] w5 fun ev w' => ev = .returned (.bool true) ∧ Below w5.heap.size w5 w') := toldE_any (opM kt rt L n) er m w4.heap.size w5 (HH.out.low hB5).glb.ge.err HE5.out hm (opM_len kt rt L n)
  have HB5 : Hid _ := hB5
  clear hb5 hB5 hm
  go_wp2_with fail
  refine Calls.mono HTO.out ?_
  rintro e w6 ⟨rfl, hb6⟩
  have HB6 : Hid _ := HB5.out.trans (hb6.mono HB5.out.size)
  have HE6 : Hid _ := HE5.out.below hb6
  have HH6 : Hid _ := HH.out.low HB6.out
  have c6 := HH6.out.c6
  cases lost with
  | false =>
   go_wp2_with fail
   go_ret
   exact ⟨rfl, HB6.out.mono HH.out.bw, ds, HH6.out, .inl rfl⟩
  | true =>
   have HQ6 : Hid _ := HQ.out rfl er (opM kt rt L n) w6 HH6.out.glb.ge HE6.out (opM_len kt rt L n)
   go_wp2_with fail
   refine Calls.mono HQ6.out ?_
   rintro e w7 ⟨rfl, hb7⟩
   have HB7 : Hid _ := HB6.out.trans (hb7.mono HB6.out.size)
   have HH7 : Hid _ := HH.out.low HB7.out
   go_wp2_with fail
   go_ret
   exact ⟨rfl, HB7.out.mono HH.out.bw, ds, HH7.out, .inl rfl⟩
 ·have HVN : Hid (VNew kt rt L n w2.heap.size v w3) := hVN
  clear hVN
  go_wp2_with fail
  refine Calls.mono HST.out ?_
  rintro e w4 ⟨rfl, hb4, hk4⟩
  have hB4 : Below w.heap.size w w4 := HB3.out.trans (by rw [HX.out]; exact hb4)
  have hVN4 : VNew kt rt L n w2.heap.size v w4 := HVN.out.still HG1.out hk4 H9.out
  obtain ⟨s, t0, k, g, p, q', f, un, hop, hr0, hv1, hqf, hvl, hvs⟩ := hVN4
  have HRO : Hid (Calls Tryz.prog 63 #[.slice a n cap, .string rt] w4 fun e w' => RYes kt n t0 s w4 e w') := (ropen kt rt L a n cap w4 (HH.out.low hB4).glb.gr hn HL.out (HR.out.low hB4)).mono fun e w' h => h.yes hop
  have HVL : Hid _ := hvl
  have HVS : Hid _ := hvs
  have HV1 : Hid _ := hv1
  have HQF : Hid _ := hqf
  have HB4 : Hid _ := hB4
  clear hb4 hk4 hB4 hop hr0 hv1 hqf hvl hvs
  go_wp2_with fail
  refine Calls.mono HRO.out ?_
  rintro e w5 ⟨y, vH, vU, hp, rfl, hb5, hRV, hset, hrd, hbl, hul, hhl⟩
  have hB5 : Below w.heap.size w w5 := HB4.out.trans (hb5.mono HB4.out.size)
  have HTO : Hid (Calls Tryz.prog 64 #[.nilIface, .slice none 0 0] w5 fun ev w' => ev = .returned (.bool true) ∧ Below w5.heap.size w5 w') := toldE_any [] .nilIface (.slice none 0 0) 0 w5 (HH.out.low hB5).glb.ge.err rfl own0 (by simp)
  obtain ⟨d, hd⟩ : ∃ d : Dr, d = { B := w2.heap.size, v := v, k := k, g := g, p := p, q := q', f := f, un := un, ul := s.un, rd := s.rd, C := w4.heap.size, y := y, vH := vH, vU := vU, hp := hp, t0 := t0, Y := w5 } := ⟨_, rfl⟩
  have HFIT : Hid (d.fit kt) := by rw [hd]; exact ⟨hset, hrd, Nat.le_trans hul hn, Nat.le_trans hhl hn, hRV.rb⟩
  have hbase : base ≤ w2.heap.size := Nat.le_trans HH.out.bw HB2.out.size
  have h24 : w2.heap.size ≤ w4.heap.size := Nat.le_trans HV1.out (Nat.le_of_lt (Array.getElem?_eq_some_iff.1 HVL.out).1)
  have HAT : Hid (d.at kt base noZ w5) := by
   have hA : d.at kt base noZ w5 := by
    subst hd
    exact ⟨(hb5.block _ (Array.getElem?_eq_some_iff.1 HVL.out).1).trans HVL.out, ⟨_, _, _, (by show VS kt w2.heap.size k g p q' f (tT t0) un s.un s.rd (blH (hp.map Prod.fst)) _ _ _ w5; rw [← hbl]; exact HVS.out.below hb5), fun j hj => hj.elim⟩, fun j hj => hj.elim, ⟨hbase, Nat.le_trans hbase HV1.out, Nat.le_trans hbase HQF.out.1, Nat.le_trans hbase HQF.out.2, Nat.le_trans hbase h24⟩, Nat.le_trans h24 hb5.size, ⟨(Array.getElem?_eq_some_iff.1 HVL.out).1, HVS.out.blR.lt, HVS.out.fiR.lt⟩, fun j cs t _ h _ => h, Nat.le_refl _⟩
   exact hA
  have HGE : Hid (w.heap.size ≤ d.v ∧ w.heap.size ≤ d.q ∧ w.heap.size ≤ d.f ∧ w.heap.size ≤ d.C) := by
   have h0 := HB2.out.size
   have h1 := HV1.out
   have h2 := HQF.out
   rw [hd]
   exact ⟨Nat.le_trans h0 h1, Nat.le_trans h0 h2.1, Nat.le_trans h0 h2.2, Nat.le_trans h0 h24⟩
  have hdv : d.v = v := by rw [hd]
  have hdy : d.y = y := by rw [hd]
  have HB5 : Hid _ := hB5
  clear hb5 hB5 hRV hset hrd hbl hul hhl hbase h24
  go_wp2_with fail
  refine Calls.mono HTO.out ?_
  rintro e w6 ⟨rfl, hb6⟩
  obtain ⟨a6, c6, v', w7, hc0, hrun, ⟨a2, c2, rfl⟩, ⟨u, hu⟩, hfz, hl6, hHK, hbel⟩ := HK.add HH.out (HB5.out.trans (hb6.mono HB5.out.size)) HFIT.out (HAT.out.low hb6) HGE.out hds
  have HRUN : Hid _ := hrun
  have HHK : Hid _ := hHK
  have HBE : Hid _ := hbel
  rw [hdv, hdy] at HRUN
  have hl7 : (w7.setCell ⟨h, 0, none⟩ (.slice a2 (ds.length + 1) c2)).cell? ⟨h, 6, none⟩ = some (.bool lost) := HHK.out.c6
  clear hb6 hrun hHK hbel hd
  cases lost with
  | false =>
   go_wp2_with (at_builtin; refine wpList_app rfl (.tmp 53) (.tmp 57) 48 rfl _ _ _ (by simp [Act.eval]) (by simp [Act.eval]) _ HRUN.out ?_)
   go_ret
   exact ⟨rfl, HBE.out, ds ++ [d], HHK.out, .inr ⟨d, rfl⟩⟩
  | true =>
   have HQ6 : Hid _ := HQ.out rfl .nilIface [] (w7.setCell ⟨h, 0, none⟩ (.slice a2 (ds.length + 1) c2)) HHK.out.glb.ge rfl (by simp)
   go_wp2_with (at_builtin; refine wpList_app rfl (.tmp 53) (.tmp 57) 48 rfl _ _ _ (by simp [Act.eval]) (by simp [Act.eval]) _ HRUN.out ?_)
   refine Calls.mono HQ6.out ?_
   rintro e w8 ⟨rfl, hb8⟩
   have HH8 : Hid _ := HHK.out.low hb8
   have HB8 : Hid _ := HBE.out.trans (hb8.mono HHK.out.bw)
   go_wp2_with fail
   go_ret
   exact ⟨rfl, HB8.out, ds ++ [d], HH8.out, .inr ⟨d, rfl⟩⟩
end Go.Proofs.YtadinjaocnlglaaGreatDoor
