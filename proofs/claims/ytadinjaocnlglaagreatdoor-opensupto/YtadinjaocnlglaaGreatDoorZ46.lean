/-
  The document's Open.
-/
import Derived.Test.YtadinjaocnlglaaGreatDoorZ37
import Derived.Test.YtadinjaocnlglaaGreatDoorZ31
namespace Go.Proofs.YtadinjaocnlglaaGreatDoor
open Go.RowKit
set_option maxRecDepth 100000
set_option maxHeartbeats 4000000
def fsM : Option (Nat × Nat) → List (Int × Int)
 | none => []
 | some e => [(10, 0), ((e.1 : Int), (e.2 : Int))]
def clM : Option (Nat × Nat) → List (Int × Int)
 | none => []
 | some e => [((e.1 : Int), (e.2 : Int))]
def Mk (w : World) (B : Nat) (v : Value) (l : List (Int × Int)) : Prop := w.ownsRow B 250 2 v l.length (mkL l)
theorem Mk.nil (w : World) (B : Nat) : Mk w B (.slice none 0 0) [] := ⟨rfl, .inl ⟨rfl, rfl⟩⟩
theorem Mk.keep {w w' : World} {B : Nat} {v : Value} {l : List (Int × Int)} (h : Mk w B v l) (hk : Kp250 w w') : Mk w' B v l := hk.own h
structure OI2 (kt : Nat → Int) (w0 : World) (v : Nat) (r : RO) (fv cv : Value) (w : World) : Prop where
 rv : ∃ vH vU hp, RV kt w0 v vH vU hp r.un w ∧ hp.map Prod.fst = r.hs
 fs : Mk w w0.heap.size fv (fsM r.fs)
 cl : Mk w w0.heap.size cv (clM r.cl)
theorem OI2.bel {kt : Nat → Int} {w0 : World} {v : Nat} {r : RO} {fv cv : Value} {w : World} (h : OI2 kt w0 v r fv cv w) : Below w0.heap.size w0 w := by
 obtain ⟨_, _, _, h1, _⟩ := h.rv
 exact h1.bel
theorem OI2.low {kt : Nat → Int} {w0 : World} {v : Nat} {r : RO} {fv cv : Value} {w w' : World} (h : OI2 kt w0 v r fv cv w) (hb : Below w.heap.size w w') : OI2 kt w0 v r fv cv w' := by
 obtain ⟨vH, vU, hp, h1, h2⟩ := h.rv
 exact ⟨⟨vH, vU, hp, h1.low hb, h2⟩, h.fs.keep (Kp250.below hb), h.cl.keep (Kp250.below hb)⟩
theorem jn_none {hp : List (ByteArray × Nat)} {t : ByteArray} (h1 : ∀ x ∈ hp.head?, Same3 x.1 t) (h2 : ∀ x ∈ hp, (tT x.1).num ≠ (tT t).num) : jnK (hp.map Prod.fst) t = none := by
 cases hp with
 | nil => rfl
 | cons y r =>
  have hs := h1 y rfl
  show (if _ then _ else _) = _
  rw [if_pos (show (tT y.1).root = (tT t).root ∧ (tT y.1).lst = (tT t).lst ∧ (tT y.1).lv = (tT t).lv from hs), if_neg]
  intro e
  obtain ⟨x, hx, e2⟩ := List.any_eq_true.1 e
  obtain ⟨z, hz, rfl⟩ := List.mem_map.1 (show x ∈ (y :: r).map Prod.fst from hx)
  exact h2 z hz (of_decide_eq_true e2)
theorem jn_12 {hp : List (ByteArray × Nat)} {t : ByteArray} (h : ∃ x ∈ hp.head?, ¬ Same3 x.1 t) : jnK (hp.map Prod.fst) t = some 12 := by
 obtain ⟨x, hx, hn⟩ := h
 cases hp with
 | nil => cases hx
 | cons y r =>
  obtain rfl : y = x := by simpa using hx
  show (if _ then _ else _) = _
  rw [if_neg (show ¬ ((tT y.1).root = (tT t).root ∧ (tT y.1).lst = (tT t).lst ∧ (tT y.1).lv = (tT t).lv) from hn)]
theorem jn_13 {hp : List (ByteArray × Nat)} {t : ByteArray} (h : ∃ x ∈ hp.head?, Same3 x.1 t) (h2 : ∃ x ∈ hp, (tT x.1).num = (tT t).num) : jnK (hp.map Prod.fst) t = some 13 := by
 obtain ⟨x, hx, hs⟩ := h
 obtain ⟨z, hz, e⟩ := h2
 cases hp with
 | nil => cases hx
 | cons y r =>
  obtain rfl : y = x := by simpa using hx
  show (if _ then _ else _) = _
  rw [if_pos (show (tT y.1).root = (tT t).root ∧ (tT y.1).lst = (tT t).lst ∧ (tT y.1).lv = (tT t).lv from hs), if_pos]
  exact List.any_eq_true.2 ⟨z.1, List.mem_map.2 ⟨z, hz, rfl⟩, decide_eq_true e⟩
def ROD (kt : Nat → Int) (rt : ByteArray) (L : Nat → ByteArray) (n : Nat) (w : World) (e : Ending) (w' : World) : Prop :=
 ∃ p m, e = .returned (.tuple #[p, m]) ∧ Below w.heap.size w w' ∧ ((rt.size ≠ 0 ∧ rt.size ≠ 32 ∧ p = .pointer none ∧ Mk w' w.heap.size m [(9, 0)]) ∨ ((rt.size = 0 ∨ rt.size = 32) ∧ (((RO.run kt rt 0 (texL L n) RO.new).hs = [] ∧ p = .pointer none ∧ Mk w' w.heap.size m ((11, (n : Int)) :: fsM (RO.run kt rt 0 (texL L n) RO.new).fs))
  ∨ ((RO.run kt rt 0 (texL L n) RO.new).hs ≠ [] ∧ (RO.run kt rt 0 (texL L n) RO.new).cl ≠ none ∧ p = .pointer none ∧ Mk w' w.heap.size m (clM (RO.run kt rt 0 (texL L n) RO.new).cl))
  ∨ ((RO.run kt rt 0 (texL L n) RO.new).hs ≠ [] ∧ (RO.run kt rt 0 (texL L n) RO.new).cl = none ∧ m = .slice none 0 0 ∧ ∃ v vH vU hp, p = .pointer (some ⟨v, 0, none⟩) ∧ RV kt w v vH vU hp (RO.run kt rt 0 (texL L n) RO.new).un w' ∧ hp.map Prod.fst = (RO.run kt rt 0 (texL L n) RO.new).hs))))
theorem hs_len (kt : Nat → Int) (rt : ByteArray) (L : Nat → ByteArray) : ∀ i, (RO.run kt rt 0 (texL L i) RO.new).hs.length ≤ i
 | 0 => by simp [texL, RO.run, RO.new]
 | i + 1 => by
  rw [texL_succ, RO.run_snoc]
  have ih := hs_len kt rt L i
  unfold RO.step
  split
  ·exact Nat.le_succ_of_le ih
  ·split
   ·show (_ ++ [_]).length ≤ _
    rw [List.length_append]; simp; omega
   ·exact Nat.le_succ_of_le ih
theorem un_len (kt : Nat → Int) (rt : ByteArray) (L : Nat → ByteArray) : ∀ i, (RO.run kt rt 0 (texL L i) RO.new).un.length ≤ i
 | 0 => by simp [texL, RO.run, RO.new]
 | i + 1 => by
  rw [texL_succ, RO.run_snoc]
  have ih := un_len kt rt L i
  unfold RO.step
  split
  ·show (_ ++ [_]).length ≤ _
   rw [List.length_append]; simp; omega
  ·split <;> exact Nat.le_succ_of_le ih
theorem ropen (kt : Nat → Int) (rt : ByteArray) (L : Nat → ByteArray) (a : Option Addr) (n cap : Nat) (w : World) (hG : Gr kt w) (hn : n ≤ 100000000) (hL : ∀ i, i < n → (L i).size ≤ 140737488351232) (hR : RawT w a n cap L) :
  Calls Tryz.prog 63 #[.slice a n cap, .string rt] w fun e w' => ROD kt rt L n w e w' := by
 have HG : Hid _ := hG
 have HL : Hid _ := hL
 have HR : Hid _ := hR
 clear hG hL hR
 by_cases hbad : rt.size ≠ 0 ∧ rt.size ≠ 32
 ·have q1 : (rt.toList == (⟨#[]⟩ : ByteArray).toList) = false := texts_ne (fun e => hbad.1 (by rw [e]; rfl))
  have q4 : ¬ rt.toList = [] := fun e => hbad.1 (by rw [ByteArray.toList_eq] at e; have h1 := congrArg List.length e; simpa using h1)
  have q5 : (rt.toList == []) = false := by rw [beq_eq_false_iff_ne]; exact q4
  have e1 : ((rt.size : Int) != 32) = true := by rw [bne_iff_ne]; omega
  have q2 : ((rt.size : Int) == 32) = false := by simp; omega
  have q3 : ¬ (rt.size : Int) = 32 := by omega
  have HBD : Hid _ := hbad
  clear hbad
  go_enter Tryz.func63, Tryz.ntmps63
  go_wp2_with fail
  refine Calls.mono (at_own 9 0 w) ?_
  rintro e w6 ⟨m, rfl, ho, hB⟩
  obtain ⟨va, vc, rfl⟩ := own_shape ho
  have HO : Hid _ := ho
  have HB : Hid _ := hB
  clear ho hB
  go_wp2_with fail
  go_ret2
  exact ⟨_, _, rfl, HB.out, .inl ⟨HBD.out.1, HBD.out.2, rfl, HO.out⟩⟩
 ·have hok : rt.size = 0 ∨ rt.size = 32 := by omega
  clear hbad
  have HOK : Hid _ := hok
  rcases hok with h0 | h0
  ·have hrt : rt = ⟨#[]⟩ := by
    apply ByteArray.ext
    have h1 : rt.data.size = 0 := h0
    exact Array.size_eq_zero_iff.1 h1
   have HRT : Hid _ := hrt
   have q4 : rt.toList = [] := by rw [hrt, ByteArray.toList_eq]
   have q5 : (rt.toList == []) = true := by rw [q4]; rfl
   clear hrt h0
   go_enter Tryz.func63, Tryz.ntmps63
   go_wp2_with fail
   obtain ⟨X0, hX0⟩ : ∃ X, w.alloc (.cells #[.slice none 0 0, .slice none 0 0] 209) = X := ⟨_, rfl⟩
   have H0 : Hid (OI2 kt w w.heap.size RO.new (.slice none 0 0) (.slice none 0 0) X0) := by
    show OI2 _ _ _ _ _ _ _
    rw [← hX0]
    exact ⟨⟨_, _, [], ⟨heap_alloc_new _ _, ⟨rfl, .inl ⟨rfl, rfl⟩⟩, ⟨rfl, .inl ⟨rfl, rfl⟩⟩, fun x hx => (by cases hx), Nat.le_refl _, (Below.refl _ _).alloc (Nat.le_refl _) _⟩, rfl⟩, Mk.nil _ _, Mk.nil _ _⟩
   rw [hX0]
   clear hX0
   go_loopw [7, 8, 9, 10, 11] (fun fv cv iv _ _ wr => ∃ (i : Nat) (ff cc : Value), i ≤ n ∧ ff = fv ∧ cc = cv ∧ iv = .int .i64 i ∧ OI2 kt w w.heap.size (RO.run kt rt 0 (texL L i) RO.new) ff cc wr) (fun _ _ iv _ _ _ => n - (intOf iv).toNat)
   case atStart => exact ⟨0, _, _, by omega, rfl, rfl, rfl, H0.out⟩
   case round =>
    obtain ⟨i, ff, cc, hi, rfl, rfl, rfl, hI⟩ := hrel
    obtain ⟨r, hr⟩ : ∃ r, RO.run kt rt 0 (texL L i) RO.new = r := ⟨_, rfl⟩
    have HS : Hid (RO.run kt rt 0 (texL L (i + 1)) RO.new = r.step kt rt i (L i)) := by
     show _ = _
     rw [texL_succ, RO.run_snoc, hr, texL_len, Nat.zero_add]
    have HHL : Hid (r.hs.length ≤ i) := by show _ ≤ _; rw [← hr]; exact hs_len kt rt L i
    have HUL : Hid (r.un.length ≤ i) := by show _ ≤ _; rw [← hr]; exact un_len kt rt L i
    rw [hr] at hI
    have hof := hI.fs
    obtain ⟨lf, hlf⟩ : ∃ x, (fsM r.fs).length = x := ⟨_, rfl⟩
    obtain ⟨af, cf, hvf⟩ := own_shape hof
    subst hvf
    have hoc := hI.cl
    obtain ⟨lc, hlc⟩ : ∃ x, (clM r.cl).length = x := ⟨_, rfl⟩
    obtain ⟨ac, cc', hvc⟩ := own_shape hoc
    subst hvc
    rw [hlf, hlc] at hI
    rw [hlf, hlc]
    have HI : Hid _ := hI
    have HLF : Hid _ := hlf
    have HLC : Hid _ := hlc
    have HRR : Hid _ := hr
    clear hI hof hoc hr hlf hlc
    by_cases hlt : i < n
    ·have hlt' : (i : Int) < (n : Int) := by omega
     obtain ⟨b, off, rfl, hcell⟩ : ∃ b off, a = some ⟨b, off, none⟩ ∧ wr.cell? ⟨b, off + i, none⟩ = some (.string (L i)) := by
      rcases RawT.below HR.out HI.out.bel with ⟨_, h1, _⟩ | ⟨ad, e, hc⟩
      ·omega
      ·obtain ⟨b, off, e2, _, hc2⟩ := hc i hlt
       exact ⟨b, off, by rw [e, e2], hc2⟩
     have HRD : Hid _ := rread kt (L i) wr (HG.out.below HI.out.bel) (HL.out i hlt)
     obtain ⟨t, ht⟩ : ∃ x, L i = x := ⟨_, rfl⟩
     rw [ht] at HRD hcell HS
     clear ht
     go_wp2_with fail
     refine Calls.mono HRD.out ?_
     rintro e w1 ⟨p, m, rfl, hR1⟩
     have HR1 : Hid _ := hR1
     have HI1 : Hid _ := HI.out.low hR1.bel
     clear hR1 HRD hcell
     cases hrd : rdE kt t with
     | some kp =>
      obtain ⟨k, q⟩ := kp
      have hm := HR1.out.bad k q hrd
      obtain ⟨ea, ec, rfl⟩ := own_shape hm
      have HE : Hid (Mk w1 w.heap.size (.slice ea 1 ec) [((k : Int), (q : Int))]) := own_base hm HI.out.bel.size
      have HSD : Hid (sdE kt rt t = some (k, q)) := by show _ = _; unfold sdE; rw [hrd]; rfl
      clear hm
      obtain ⟨vH, vU, hp, hRV, hhp⟩ := HI1.out.rv
      have hoU := hRV.oU
      obtain ⟨aU, cU, hvU⟩ := own_shape hoU
      subst hvU
      have hul : r.un.length ≤ 100000000 := Nat.le_trans HUL.out (by omega)
      obtain ⟨v', w5, hrun, hRV5, hr5, hkp⟩ := RV.miss hRV i hul
      have a1 : w1.cell? ⟨w.heap.size, 1, none⟩ = some (.slice aU r.un.length cU) := cell_of_row _ _ _ _ 209 _ hRV.row
      have q1' : w5.cell? ⟨w.heap.size, 1, none⟩ = some (.slice aU r.un.length cU) := cell_of_row _ _ _ _ 209 _ hr5
      have p1' := frozen_of_row w5 w.heap.size 1 _ 209 hr5
      obtain ⟨aU', cU', hvv⟩ := own_shape hRV5.oU
      subst hvv
      obtain ⟨n2, hn2⟩ : ∃ x, (r.un ++ [i]).length = x := ⟨_, rfl⟩
      rw [hn2] at hrun hRV5 hkp
      obtain ⟨W5, hW5⟩ : ∃ X, w5.setCell ⟨w.heap.size, 1, none⟩ (.slice aU' n2 cU') = X := ⟨_, rfl⟩
      have HE5 : Hid (Mk W5 w.heap.size (.slice ea 1 ec) [((k : Int), (q : Int))]) := by show Mk _ _ _ _; rw [← hW5]; exact Mk.keep HE.out hkp
      have HF5 : Hid (Mk W5 w.heap.size (.slice af lf cf) (fsM r.fs)) := by show Mk _ _ _ _; rw [← hW5]; exact Mk.keep HI1.out.fs hkp
      have HC5 : Hid (Mk W5 w.heap.size (.slice ac lc cc') (clM r.cl)) := by show Mk _ _ _ _; rw [← hW5]; exact Mk.keep HI1.out.cl hkp
      have HRV5 : Hid (RV kt w w.heap.size vH (.slice aU' n2 cU') hp (r.un ++ [i]) W5) := by show RV _ _ _ _ _ _ _ _; rw [← hW5]; exact hRV5
      have HHP : Hid _ := hhp
      have RR : Hid _ := hrun
      have HST : Hid (RO.run kt rt 0 (texL L (i + 1)) RO.new = { r with un := r.un ++ [i], fs := if i = 0 then some (k, q) else r.fs }) := by
       show _ = _
       rw [HS.out]
       unfold RO.step
       rw [HSD.out]
      clear hRV hhp hoU hrun hRV5 hr5 hkp hn2
      go_wp2_with (at_builtin; refine wpList_app rfl (.tmp 59) (.tmp 61) 39 rfl _ _ _ (by simp [Act.eval]) (by simp [Act.eval]) _ RR.out ?_)
      ·have HI0 : Hid (i = 0) := by show i = 0; have hz : ((i : Int) == 0) = true := (by assumption); simp at hz; omega
       have HOV : Hid _ := rover_any 10 0 [((k : Int), (q : Int))] (.slice ea 1 ec) w.heap.size W5 HE5.out (by simp)
       refine Calls.mono HOV.out ?_
       rintro e w6 ⟨fm, rfl, hfm, hb6⟩
       obtain ⟨fa, fc, rfl⟩ := own_shape hfm
       have HFM : Hid (Mk w6 w.heap.size _ [(10, 0), ((k : Int), (q : Int))]) := own_base hfm HRV5.out.bel.size
       have HRV6 : Hid _ := HRV5.out.low hb6
       have HC6 : Hid _ := HC5.out.keep (Kp250.below hb6)
       clear hfm hb6
       go_wp2_with fail
       go_roundw
       case rel =>
        refine ⟨i + 1, _, _, by omega, rfl, rfl, by go_num, ?_⟩
        rw [HST.out, if_pos HI0.out]
        exact ⟨⟨_, _, hp, HRV6.out, HHP.out⟩, HFM.out, HC6.out⟩
       case measure => simp [intOf]; omega
      ·have HI0 : Hid (¬ i = 0) := by show ¬ i = 0; have hz : ((i : Int) == 0) = false := (by first | assumption | (have h9 : ¬ ((i : Int) == 0) = true := (by assumption); simpa using h9)); simp at hz; omega
       go_roundw
       case rel =>
        refine ⟨i + 1, _, _, by omega, rfl, rfl, by go_num, ?_⟩
        rw [HST.out, if_neg HI0.out]
        exact ⟨⟨_, _, hp, HRV5.out, HHP.out⟩, HF5.out, HC5.out⟩
       case measure => simp [intOf]; omega
     | none =>
      obtain ⟨rfl, g, rfl, hRH⟩ := RRd.head HR1.out hrd
      have HH : Hid (RHd kt w.heap.size t g w1) := hRH.base HI.out.bel.size
      clear hRH
      have HSD : Hid (sdE kt rt t = none) := by
       show _ = _
       unfold sdE
       rw [hrd, if_neg (by simp), if_pos HRT.out]
      obtain ⟨vH, vU, hp, hRV, hhp⟩ := HI1.out.rv
      have hpl : hp.length ≤ 100000000 := by
       have h1 := congrArg List.length hhp
       rw [List.length_map] at h1
       have h2 := HHL.out
       omega
      have HJN : Hid _ := rjoins kt w w.heap.size vH vU hp r.un t g i w1 hRV HH.out hpl
      have HHP : Hid _ := hhp
      clear hRV hhp
      go_wp2_with fail
      refine Calls.mono HJN.out ?_
      rintro e w5 ⟨rv, rfl, hkp, hcase⟩
      have HF5 : Hid (Mk w5 w.heap.size (.slice af lf cf) (fsM r.fs)) := Mk.keep HI1.out.fs hkp
      have HC5 : Hid (Mk w5 w.heap.size (.slice ac lc cc') (clM r.cl)) := Mk.keep HI1.out.cl hkp
      clear hkp HJN
      rcases hcase with ⟨rfl, h1, h2, vH', hRV5⟩ | ⟨kk, hm, hRV5, hk⟩
      ·have HST : Hid (RO.run kt rt 0 (texL L (i + 1)) RO.new = { r with hs := r.hs ++ [t] }) := by
        show _ = _
        rw [HS.out]
        unfold RO.step
        rw [HSD.out]
        have h3 := jn_none h1 h2
        rw [HHP.out] at h3
        simp only [h3]
       have HRV5 : Hid _ := hRV5
       clear h1 h2 hRV5
       go_wp2_with fail
       go_roundw
       case rel =>
        refine ⟨i + 1, _, _, by omega, rfl, rfl, by go_num, ?_⟩
        rw [HST.out]
        exact ⟨⟨_, _, hp ++ [(t, g)], HRV5.out, by rw [List.map_append, HHP.out]; rfl⟩, HF5.out, HC5.out⟩
       case measure => simp [intOf]; omega
      ·obtain ⟨ma, mc, rfl⟩ := own_shape hm
       have HM : Hid _ := hm
       have HRV5 : Hid _ := hRV5
       obtain ⟨kn, hkn, hjn⟩ : ∃ kn : Nat, kk = (kn : Int) ∧ jnK r.hs t = some kn := by
        rw [← HHP.out]
        rcases hk with ⟨e, h1⟩ | ⟨e, h1, h2⟩
        ·exact ⟨12, e, jn_12 h1⟩
        ·exact ⟨13, e, jn_13 h1 h2⟩
       subst hkn
       have HST : Hid (RO.run kt rt 0 (texL L (i + 1)) RO.new = { r with cl := match r.cl with | none => some (kn, i) | some c => some c }) := by
        show _ = _
        rw [HS.out]
        unfold RO.step
        rw [HSD.out]
        simp only [hjn]
        cases r.cl <;> rfl
       clear hm hRV5 hk hjn
       cases hcl : r.cl with
       | none =>
        have hl0 : lc = 0 := by rw [← HLC.out, hcl]; rfl
        subst hl0
        have HCL : Hid _ := hcl
        clear hcl
        go_wp2_with fail
        go_roundw
        case rel =>
         refine ⟨i + 1, _, _, by omega, rfl, rfl, by go_num, ?_⟩
         rw [HST.out, HCL.out]
         exact ⟨⟨_, _, hp, HRV5.out, HHP.out⟩, HF5.out, HM.out⟩
        case measure => simp [intOf]; omega
       | some c =>
        have hl0 : lc = 1 := by rw [← HLC.out, hcl]; rfl
        subst hl0
        have HCL : Hid _ := hcl
        clear hcl
        go_wp2_with fail
        go_roundw
        case rel =>
         refine ⟨i + 1, _, _, by omega, rfl, rfl, by go_num, ?_⟩
         have hc5 := HC5.out
         rw [HCL.out] at hc5
         rw [HST.out, HCL.out]
         exact ⟨⟨_, _, hp, HRV5.out, HHP.out⟩, HF5.out, hc5⟩
        case measure => simp [intOf]; omega
    ·have hlt' : ¬ (i : Int) < (n : Int) := by omega
     obtain rfl : i = n := by omega
     obtain ⟨vH, vU, hp, hRV, hhp⟩ := HI.out.rv
     obtain ⟨nh, hnh⟩ : ∃ x, (hp.map Prod.snd).length = x := ⟨_, rfl⟩
     obtain ⟨aH, cH, hvH⟩ := own_shape hRV.oH
     subst hvH
     have a0 : wr.cell? ⟨w.heap.size, 0, none⟩ = some (.slice aH nh cH) := by rw [← hnh]; exact cell_of_row _ _ _ _ 209 _ hRV.row
     have HRV : Hid _ := hRV
     have HHP : Hid _ := hhp
     have hhl : r.hs.length = nh := by rw [← hnh, ← hhp]; simp
     clear hRV hhp
     by_cases hz : nh = 0
     ·have hz' : ((nh : Int) == 0) = true := by simp; omega
      have HHE : Hid (r.hs = []) := List.length_eq_zero_iff.1 (hhl.trans hz)
      have HOV : Hid _ := rover_any 11 i (fsM r.fs) (.slice af lf cf) w.heap.size wr HI.out.fs (by cases r.fs <;> simp [fsM])
      subst hz
      go_wp2_with fail
      refine Calls.mono HOV.out ?_
      rintro e w6 ⟨fm, rfl, hfm, hb6⟩
      obtain ⟨fa, fc, rfl⟩ := own_shape hfm
      have HFM : Hid _ := own_base hfm HRV.out.bel.size
      have HB6 : Hid (Below w.heap.size w w6) := HRV.out.bel.trans (hb6.mono HRV.out.bel.size)
      clear hfm hb6
      go_wp2_with fail
      go_ret2
      exact ⟨_, _, rfl, HB6.out, .inr ⟨HOK.out, .inl ⟨by rw [HRR.out]; exact HHE.out, rfl, by rw [HRR.out]; exact HFM.out⟩⟩⟩
     ·have hz' : ((nh : Int) == 0) = false := by simp; omega
      have hz2 : ¬ (nh : Int) = 0 := by omega
      have HHE : Hid (r.hs ≠ []) := fun e => hz (by rw [← hhl, e]; rfl)
      clear hz
      cases hcl : r.cl with
      | none =>
       have hl0 : lc = 0 := by rw [← HLC.out, hcl]; rfl
       subst hl0
       have HCL : Hid _ := hcl
       clear hcl
       go_wp2_with fail
       go_ret2
       exact ⟨_, _, rfl, HRV.out.bel, .inr ⟨HOK.out, .inr (.inr ⟨by rw [HRR.out]; exact HHE.out, by rw [HRR.out]; exact HCL.out, rfl, _, _, _, hp, rfl, by rw [HRR.out]; exact HRV.out, by rw [HRR.out]; exact HHP.out⟩)⟩⟩
      | some c =>
       have hl0 : lc = 1 := by rw [← HLC.out, hcl]; rfl
       subst hl0
       have HCL : Hid _ := hcl
       clear hcl
       go_wp2_with fail
       go_ret2
       exact ⟨_, _, rfl, HRV.out.bel, .inr ⟨HOK.out, .inr (.inl ⟨by rw [HRR.out]; exact HHE.out, by rw [HRR.out, HCL.out]; simp, rfl, by rw [HRR.out]; exact HI.out.cl⟩)⟩⟩
  ·have hrt : rt ≠ ⟨#[]⟩ := fun e => by rw [e] at h0; cases h0
   have HRT : Hid _ := hrt
   have q4 : ¬ rt.toList = [] := fun e => hrt (by
    apply ByteArray.ext
    rw [ByteArray.toList_eq] at e
    exact Array.toList_inj.1 e)
   have q5 : (rt.toList == []) = false := by rw [beq_eq_false_iff_ne]; exact q4
   have e1 : ((rt.size : Int) != 32) = false := by simp; omega
   have q3 : (rt.size : Int) = 32 := by omega
   clear hrt
   go_enter Tryz.func63, Tryz.ntmps63
   go_wp2_with fail
   obtain ⟨X0, hX0⟩ : ∃ X, w.alloc (.cells #[.slice none 0 0, .slice none 0 0] 209) = X := ⟨_, rfl⟩
   have H0 : Hid (OI2 kt w w.heap.size RO.new (.slice none 0 0) (.slice none 0 0) X0) := by
    show OI2 _ _ _ _ _ _ _
    rw [← hX0]
    exact ⟨⟨_, _, [], ⟨heap_alloc_new _ _, ⟨rfl, .inl ⟨rfl, rfl⟩⟩, ⟨rfl, .inl ⟨rfl, rfl⟩⟩, fun x hx => (by cases hx), Nat.le_refl _, (Below.refl _ _).alloc (Nat.le_refl _) _⟩, rfl⟩, Mk.nil _ _, Mk.nil _ _⟩
   rw [hX0]
   clear hX0
   go_loopw [7, 8, 9, 10, 11] (fun fv cv iv _ _ wr => ∃ (i : Nat) (ff cc : Value), i ≤ n ∧ ff = fv ∧ cc = cv ∧ iv = .int .i64 i ∧ OI2 kt w w.heap.size (RO.run kt rt 0 (texL L i) RO.new) ff cc wr) (fun _ _ iv _ _ _ => n - (intOf iv).toNat)
   case atStart => exact ⟨0, _, _, by omega, rfl, rfl, rfl, H0.out⟩
   case round =>
    obtain ⟨i, ff, cc, hi, rfl, rfl, rfl, hI⟩ := hrel
    obtain ⟨r, hr⟩ : ∃ r, RO.run kt rt 0 (texL L i) RO.new = r := ⟨_, rfl⟩
    have HS : Hid (RO.run kt rt 0 (texL L (i + 1)) RO.new = r.step kt rt i (L i)) := by
     show _ = _
     rw [texL_succ, RO.run_snoc, hr, texL_len, Nat.zero_add]
    have HHL : Hid (r.hs.length ≤ i) := by show _ ≤ _; rw [← hr]; exact hs_len kt rt L i
    have HUL : Hid (r.un.length ≤ i) := by show _ ≤ _; rw [← hr]; exact un_len kt rt L i
    rw [hr] at hI
    have hof := hI.fs
    obtain ⟨lf, hlf⟩ : ∃ x, (fsM r.fs).length = x := ⟨_, rfl⟩
    obtain ⟨af, cf, hvf⟩ := own_shape hof
    subst hvf
    have hoc := hI.cl
    obtain ⟨lc, hlc⟩ : ∃ x, (clM r.cl).length = x := ⟨_, rfl⟩
    obtain ⟨ac, cc', hvc⟩ := own_shape hoc
    subst hvc
    rw [hlf, hlc] at hI
    rw [hlf, hlc]
    have HI : Hid _ := hI
    have HLF : Hid _ := hlf
    have HLC : Hid _ := hlc
    have HRR : Hid _ := hr
    clear hI hof hoc hr hlf hlc
    by_cases hlt : i < n
    ·have hlt' : (i : Int) < (n : Int) := by omega
     obtain ⟨b, off, rfl, hcell⟩ : ∃ b off, a = some ⟨b, off, none⟩ ∧ wr.cell? ⟨b, off + i, none⟩ = some (.string (L i)) := by
      rcases RawT.below HR.out HI.out.bel with ⟨_, h1, _⟩ | ⟨ad, e, hc⟩
      ·omega
      ·obtain ⟨b, off, e2, _, hc2⟩ := hc i hlt
       exact ⟨b, off, by rw [e, e2], hc2⟩
     have HRD : Hid _ := rread kt (L i) wr (HG.out.below HI.out.bel) (HL.out i hlt)
     obtain ⟨t, ht⟩ : ∃ x, L i = x := ⟨_, rfl⟩
     rw [ht] at HRD hcell HS
     clear ht
     go_wp2_with fail
     refine Calls.mono HRD.out ?_
     rintro e w1 ⟨p, m, rfl, hR1⟩
     have HR1 : Hid _ := hR1
     have HI1 : Hid _ := HI.out.low hR1.bel
     clear hR1 HRD hcell
     cases hrd : rdE kt t with
     | some kp =>
      obtain ⟨k, q⟩ := kp
      have hm := HR1.out.bad k q hrd
      obtain ⟨ea, ec, rfl⟩ := own_shape hm
      have HE : Hid (Mk w1 w.heap.size (.slice ea 1 ec) [((k : Int), (q : Int))]) := own_base hm HI.out.bel.size
      have HSD : Hid (sdE kt rt t = some (k, q)) := by show _ = _; unfold sdE; rw [hrd]; rfl
      clear hm
      obtain ⟨vH, vU, hp, hRV, hhp⟩ := HI1.out.rv
      have hoU := hRV.oU
      obtain ⟨aU, cU, hvU⟩ := own_shape hoU
      subst hvU
      have hul : r.un.length ≤ 100000000 := Nat.le_trans HUL.out (by omega)
      obtain ⟨v', w5, hrun, hRV5, hr5, hkp⟩ := RV.miss hRV i hul
      have a1 : w1.cell? ⟨w.heap.size, 1, none⟩ = some (.slice aU r.un.length cU) := cell_of_row _ _ _ _ 209 _ hRV.row
      have q1' : w5.cell? ⟨w.heap.size, 1, none⟩ = some (.slice aU r.un.length cU) := cell_of_row _ _ _ _ 209 _ hr5
      have p1' := frozen_of_row w5 w.heap.size 1 _ 209 hr5
      obtain ⟨aU', cU', hvv⟩ := own_shape hRV5.oU
      subst hvv
      obtain ⟨n2, hn2⟩ : ∃ x, (r.un ++ [i]).length = x := ⟨_, rfl⟩
      rw [hn2] at hrun hRV5 hkp
      obtain ⟨W5, hW5⟩ : ∃ X, w5.setCell ⟨w.heap.size, 1, none⟩ (.slice aU' n2 cU') = X := ⟨_, rfl⟩
      have HE5 : Hid (Mk W5 w.heap.size (.slice ea 1 ec) [((k : Int), (q : Int))]) := by show Mk _ _ _ _; rw [← hW5]; exact Mk.keep HE.out hkp
      have HF5 : Hid (Mk W5 w.heap.size (.slice af lf cf) (fsM r.fs)) := by show Mk _ _ _ _; rw [← hW5]; exact Mk.keep HI1.out.fs hkp
      have HC5 : Hid (Mk W5 w.heap.size (.slice ac lc cc') (clM r.cl)) := by show Mk _ _ _ _; rw [← hW5]; exact Mk.keep HI1.out.cl hkp
      have HRV5 : Hid (RV kt w w.heap.size vH (.slice aU' n2 cU') hp (r.un ++ [i]) W5) := by show RV _ _ _ _ _ _ _ _; rw [← hW5]; exact hRV5
      have HHP : Hid _ := hhp
      have RR : Hid _ := hrun
      have HST : Hid (RO.run kt rt 0 (texL L (i + 1)) RO.new = { r with un := r.un ++ [i], fs := if i = 0 then some (k, q) else r.fs }) := by
       show _ = _
       rw [HS.out]
       unfold RO.step
       rw [HSD.out]
      clear hRV hhp hoU hrun hRV5 hr5 hkp hn2
      go_wp2_with (at_builtin; refine wpList_app rfl (.tmp 59) (.tmp 61) 39 rfl _ _ _ (by simp [Act.eval]) (by simp [Act.eval]) _ RR.out ?_)
      ·have HI0 : Hid (i = 0) := by show i = 0; have hz : ((i : Int) == 0) = true := (by assumption); simp at hz; omega
       have HOV : Hid _ := rover_any 10 0 [((k : Int), (q : Int))] (.slice ea 1 ec) w.heap.size W5 HE5.out (by simp)
       refine Calls.mono HOV.out ?_
       rintro e w6 ⟨fm, rfl, hfm, hb6⟩
       obtain ⟨fa, fc, rfl⟩ := own_shape hfm
       have HFM : Hid (Mk w6 w.heap.size _ [(10, 0), ((k : Int), (q : Int))]) := own_base hfm HRV5.out.bel.size
       have HRV6 : Hid _ := HRV5.out.low hb6
       have HC6 : Hid _ := HC5.out.keep (Kp250.below hb6)
       clear hfm hb6
       go_wp2_with fail
       go_roundw
       case rel =>
        refine ⟨i + 1, _, _, by omega, rfl, rfl, by go_num, ?_⟩
        rw [HST.out, if_pos HI0.out]
        exact ⟨⟨_, _, hp, HRV6.out, HHP.out⟩, HFM.out, HC6.out⟩
       case measure => simp [intOf]; omega
      ·have HI0 : Hid (¬ i = 0) := by show ¬ i = 0; have hz : ((i : Int) == 0) = false := (by first | assumption | (have h9 : ¬ ((i : Int) == 0) = true := (by assumption); simpa using h9)); simp at hz; omega
       go_roundw
       case rel =>
        refine ⟨i + 1, _, _, by omega, rfl, rfl, by go_num, ?_⟩
        rw [HST.out, if_neg HI0.out]
        exact ⟨⟨_, _, hp, HRV5.out, HHP.out⟩, HF5.out, HC5.out⟩
       case measure => simp [intOf]; omega
     | none =>
      obtain ⟨rfl, g, rfl, hRH⟩ := RRd.head HR1.out hrd
      have HH : Hid (RHd kt w.heap.size t g w1) := hRH.base HI.out.bel.size
      clear hRH
      have g4 := HH.out.cells.2
      by_cases hro : (tT t).root = rt
      ·have q6 : ((tT t).root.toList == rt.toList) = true := texts_eq hro
       have HSD : Hid (sdE kt rt t = none) := by
        show _ = _
        unfold sdE
        rw [hrd, if_neg (by simp), if_neg HRT.out, if_pos (show (RS.on t).told.root = rt from hro)]
       clear hro
       obtain ⟨vH, vU, hp, hRV, hhp⟩ := HI1.out.rv
       have hpl : hp.length ≤ 100000000 := by
        have h1 := congrArg List.length hhp
        rw [List.length_map] at h1
        have h2 := HHL.out
        omega
       have HJN : Hid _ := rjoins kt w w.heap.size vH vU hp r.un t g i w1 hRV HH.out hpl
       have HHP : Hid _ := hhp
       clear hRV hhp
       go_wp2_with fail
       refine Calls.mono HJN.out ?_
       rintro e w5 ⟨rv, rfl, hkp, hcase⟩
       have HF5 : Hid (Mk w5 w.heap.size (.slice af lf cf) (fsM r.fs)) := Mk.keep HI1.out.fs hkp
       have HC5 : Hid (Mk w5 w.heap.size (.slice ac lc cc') (clM r.cl)) := Mk.keep HI1.out.cl hkp
       clear hkp HJN
       rcases hcase with ⟨rfl, h1, h2, vH', hRV5⟩ | ⟨kk, hm, hRV5, hk⟩
       ·have HST : Hid (RO.run kt rt 0 (texL L (i + 1)) RO.new = { r with hs := r.hs ++ [t] }) := by
         show _ = _
         rw [HS.out]
         unfold RO.step
         rw [HSD.out]
         have h3 := jn_none h1 h2
         rw [HHP.out] at h3
         simp only [h3]
        have HRV5 : Hid _ := hRV5
        clear h1 h2 hRV5
        go_wp2_with fail
        go_roundw
        case rel =>
         refine ⟨i + 1, _, _, by omega, rfl, rfl, by go_num, ?_⟩
         rw [HST.out]
         exact ⟨⟨_, _, hp ++ [(t, g)], HRV5.out, by rw [List.map_append, HHP.out]; rfl⟩, HF5.out, HC5.out⟩
        case measure => simp [intOf]; omega
       ·obtain ⟨ma, mc, rfl⟩ := own_shape hm
        have HM : Hid _ := hm
        have HRV5 : Hid _ := hRV5
        obtain ⟨kn, hkn, hjn⟩ : ∃ kn : Nat, kk = (kn : Int) ∧ jnK r.hs t = some kn := by
         rw [← HHP.out]
         rcases hk with ⟨e, h1⟩ | ⟨e, h1, h2⟩
         ·exact ⟨12, e, jn_12 h1⟩
         ·exact ⟨13, e, jn_13 h1 h2⟩
        subst hkn
        have HST : Hid (RO.run kt rt 0 (texL L (i + 1)) RO.new = { r with cl := match r.cl with | none => some (kn, i) | some c => some c }) := by
         show _ = _
         rw [HS.out]
         unfold RO.step
         rw [HSD.out]
         simp only [hjn]
         cases r.cl <;> rfl
        clear hm hRV5 hk hjn
        cases hcl : r.cl with
        | none =>
         have hl0 : lc = 0 := by rw [← HLC.out, hcl]; rfl
         subst hl0
         have HCL : Hid _ := hcl
         clear hcl
         go_wp2_with fail
         go_roundw
         case rel =>
          refine ⟨i + 1, _, _, by omega, rfl, rfl, by go_num, ?_⟩
          rw [HST.out, HCL.out]
          exact ⟨⟨_, _, hp, HRV5.out, HHP.out⟩, HF5.out, HM.out⟩
         case measure => simp [intOf]; omega
        | some c =>
         have hl0 : lc = 1 := by rw [← HLC.out, hcl]; rfl
         subst hl0
         have HCL : Hid _ := hcl
         clear hcl
         go_wp2_with fail
         go_roundw
         case rel =>
          refine ⟨i + 1, _, _, by omega, rfl, rfl, by go_num, ?_⟩
          have hc5 := HC5.out
          rw [HCL.out] at hc5
          rw [HST.out, HCL.out]
          exact ⟨⟨_, _, hp, HRV5.out, HHP.out⟩, HF5.out, hc5⟩
         case measure => simp [intOf]; omega
      ·have q6 : ((tT t).root.toList == rt.toList) = false := texts_ne hro
       have HSD : Hid (sdE kt rt t = some (9, 4)) := by
        show _ = _
        unfold sdE
        rw [hrd, if_neg (by simp), if_neg HRT.out, if_neg (show ¬ (RS.on t).told.root = rt from hro)]
       clear hro
       go_wp2_with fail
       refine Calls.mono (at_own 9 4 w1) ?_
       rintro e w4 ⟨em, rfl, hem, hb4⟩
       obtain ⟨ea, ec, rfl⟩ := own_shape hem
       have HE : Hid (Mk w4 w.heap.size (.slice ea 1 ec) [(((9 : Nat) : Int), ((4 : Nat) : Int))]) := own_base hem HI1.out.bel.size
       have HI4 : Hid _ := HI1.out.low hb4
       clear hem hb4 g4
       obtain ⟨vH, vU, hp, hRV, hhp⟩ := HI4.out.rv
       have hoU := hRV.oU
       obtain ⟨aU, cU, hvU⟩ := own_shape hoU
       subst hvU
       have hul : r.un.length ≤ 100000000 := Nat.le_trans HUL.out (by omega)
       obtain ⟨v', w5, hrun, hRV5, hr5, hkp⟩ := RV.miss hRV i hul
       have a1 : w4.cell? ⟨w.heap.size, 1, none⟩ = some (.slice aU r.un.length cU) := cell_of_row _ _ _ _ 209 _ hRV.row
       have q1' : w5.cell? ⟨w.heap.size, 1, none⟩ = some (.slice aU r.un.length cU) := cell_of_row _ _ _ _ 209 _ hr5
       have p1' := frozen_of_row w5 w.heap.size 1 _ 209 hr5
       obtain ⟨aU', cU', hvv⟩ := own_shape hRV5.oU
       subst hvv
       obtain ⟨n2, hn2⟩ : ∃ x, (r.un ++ [i]).length = x := ⟨_, rfl⟩
       rw [hn2] at hrun hRV5 hkp
       obtain ⟨W5, hW5⟩ : ∃ X, w5.setCell ⟨w.heap.size, 1, none⟩ (.slice aU' n2 cU') = X := ⟨_, rfl⟩
       have HE5 : Hid (Mk W5 w.heap.size (.slice ea 1 ec) [(((9 : Nat) : Int), ((4 : Nat) : Int))]) := by show Mk _ _ _ _; rw [← hW5]; exact Mk.keep HE.out hkp
       have HF5 : Hid (Mk W5 w.heap.size (.slice af lf cf) (fsM r.fs)) := by show Mk _ _ _ _; rw [← hW5]; exact Mk.keep HI4.out.fs hkp
       have HC5 : Hid (Mk W5 w.heap.size (.slice ac lc cc') (clM r.cl)) := by show Mk _ _ _ _; rw [← hW5]; exact Mk.keep HI4.out.cl hkp
       have HRV5 : Hid (RV kt w w.heap.size vH (.slice aU' n2 cU') hp (r.un ++ [i]) W5) := by show RV _ _ _ _ _ _ _ _; rw [← hW5]; exact hRV5
       have HHP : Hid _ := hhp
       have RR : Hid _ := hrun
       have HST : Hid (RO.run kt rt 0 (texL L (i + 1)) RO.new = { r with un := r.un ++ [i], fs := if i = 0 then some (9, 4) else r.fs }) := by
        show _ = _
        rw [HS.out]
        unfold RO.step
        rw [HSD.out]
       clear hRV hhp hoU hrun hRV5 hr5 hkp hn2
       go_wp2_with (at_builtin; refine wpList_app rfl (.tmp 59) (.tmp 61) 39 rfl _ _ _ (by simp [Act.eval]) (by simp [Act.eval]) _ RR.out ?_)
       ·have HI0 : Hid (i = 0) := by show i = 0; have hz : ((i : Int) == 0) = true := (by assumption); simp at hz; omega
        have HOV : Hid _ := rover_any 10 0 [(((9 : Nat) : Int), ((4 : Nat) : Int))] (.slice ea 1 ec) w.heap.size W5 HE5.out (by simp)
        refine Calls.mono HOV.out ?_
        rintro e w6 ⟨fm, rfl, hfm, hb6⟩
        obtain ⟨fa, fc, rfl⟩ := own_shape hfm
        have HFM : Hid (Mk w6 w.heap.size _ [(10, 0), (((9 : Nat) : Int), ((4 : Nat) : Int))]) := own_base hfm HRV5.out.bel.size
        have HRV6 : Hid _ := HRV5.out.low hb6
        have HC6 : Hid _ := HC5.out.keep (Kp250.below hb6)
        clear hfm hb6
        go_wp2_with fail
        go_roundw
        case rel =>
         refine ⟨i + 1, _, _, by omega, rfl, rfl, by go_num, ?_⟩
         rw [HST.out, if_pos HI0.out]
         exact ⟨⟨_, _, hp, HRV6.out, HHP.out⟩, HFM.out, HC6.out⟩
        case measure => simp [intOf]; omega
       ·have HI0 : Hid (¬ i = 0) := by show ¬ i = 0; have hz : ((i : Int) == 0) = false := (by first | assumption | (have h9 : ¬ ((i : Int) == 0) = true := (by assumption); simpa using h9)); simp at hz; omega
        go_roundw
        case rel =>
         refine ⟨i + 1, _, _, by omega, rfl, rfl, by go_num, ?_⟩
         rw [HST.out, if_neg HI0.out]
         exact ⟨⟨_, _, hp, HRV5.out, HHP.out⟩, HF5.out, HC5.out⟩
        case measure => simp [intOf]; omega
    ·have hlt' : ¬ (i : Int) < (n : Int) := by omega
     obtain rfl : i = n := by omega
     obtain ⟨vH, vU, hp, hRV, hhp⟩ := HI.out.rv
     obtain ⟨nh, hnh⟩ : ∃ x, (hp.map Prod.snd).length = x := ⟨_, rfl⟩
     obtain ⟨aH, cH, hvH⟩ := own_shape hRV.oH
     subst hvH
     have a0 : wr.cell? ⟨w.heap.size, 0, none⟩ = some (.slice aH nh cH) := by rw [← hnh]; exact cell_of_row _ _ _ _ 209 _ hRV.row
     have HRV : Hid _ := hRV
     have HHP : Hid _ := hhp
     have hhl : r.hs.length = nh := by rw [← hnh, ← hhp]; simp
     clear hRV hhp
     by_cases hz : nh = 0
     ·have hz' : ((nh : Int) == 0) = true := by simp; omega
      have HHE : Hid (r.hs = []) := List.length_eq_zero_iff.1 (hhl.trans hz)
      have HOV : Hid _ := rover_any 11 i (fsM r.fs) (.slice af lf cf) w.heap.size wr HI.out.fs (by cases r.fs <;> simp [fsM])
      subst hz
      go_wp2_with fail
      refine Calls.mono HOV.out ?_
      rintro e w6 ⟨fm, rfl, hfm, hb6⟩
      obtain ⟨fa, fc, rfl⟩ := own_shape hfm
      have HFM : Hid _ := own_base hfm HRV.out.bel.size
      have HB6 : Hid (Below w.heap.size w w6) := HRV.out.bel.trans (hb6.mono HRV.out.bel.size)
      clear hfm hb6
      go_wp2_with fail
      go_ret2
      exact ⟨_, _, rfl, HB6.out, .inr ⟨HOK.out, .inl ⟨by rw [HRR.out]; exact HHE.out, rfl, by rw [HRR.out]; exact HFM.out⟩⟩⟩
     ·have hz' : ((nh : Int) == 0) = false := by simp; omega
      have hz2 : ¬ (nh : Int) = 0 := by omega
      have HHE : Hid (r.hs ≠ []) := fun e => hz (by rw [← hhl, e]; rfl)
      clear hz
      cases hcl : r.cl with
      | none =>
       have hl0 : lc = 0 := by rw [← HLC.out, hcl]; rfl
       subst hl0
       have HCL : Hid _ := hcl
       clear hcl
       go_wp2_with fail
       go_ret2
       exact ⟨_, _, rfl, HRV.out.bel, .inr ⟨HOK.out, .inr (.inr ⟨by rw [HRR.out]; exact HHE.out, by rw [HRR.out]; exact HCL.out, rfl, _, _, _, hp, rfl, by rw [HRR.out]; exact HRV.out, by rw [HRR.out]; exact HHP.out⟩)⟩⟩
      | some c =>
       have hl0 : lc = 1 := by rw [← HLC.out, hcl]; rfl
       subst hl0
       have HCL : Hid _ := hcl
       clear hcl
       go_wp2_with fail
       go_ret2
       exact ⟨_, _, rfl, HRV.out.bel, .inr ⟨HOK.out, .inr (.inl ⟨by rw [HRR.out]; exact HHE.out, by rw [HRR.out, HCL.out]; simp, rfl, by rw [HRR.out]; exact HI.out.cl⟩)⟩⟩
end Go.Proofs.YtadinjaocnlglaaGreatDoor
