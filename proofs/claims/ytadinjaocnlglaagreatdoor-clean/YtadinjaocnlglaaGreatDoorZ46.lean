/-
  Vault.Repair where all is whole; vaultkeep's whole.
  vault.Open, and vaultkeep's opened.
  Plain: what is whole is made as it was, and is whole again.
  One object taken out of a list of one's own.
-/
import Derived.Test.YtadinjaocnlglaaGreatDoorZ45
import Derived.Test.YtadinjaocnlglaaGreatDoorZ24
import Derived.Deep.RegionLaw
namespace Go.Proofs.YtadinjaocnlglaaGreatDoor
open Go.RowKit
set_option maxRecDepth 100000
set_option maxHeartbeats 4000000
theorem vrepair_ok (kt : Nat → Int) (B v k g p q f : Nat) (T : TT) (un : Value) (ul : List Nat) (rd : Nat → Bool) (bl : Nat → ByteArray) (dn : Nat → Bool) (zs : Nat → Nat) (bd : Nat → Value) (w : World) (hv : VL v k 0 w) (h : VS kt B k g p q f T un ul rd bl dn zs bd w) (hT : Told1 T) (hle : T.L.es.length ≤ 16 ∧ lenE T.L.es ≤ 4096) (hnm : ∀ x ∈ T.L.es, x.1.size ≤ 255) (hG : Gd kt w) (hB : B ≤ w.heap.size) (h2 : v ≠ 2) (ha : ∀ s, s < T.L.ns → stF kt T bl s = 0) :
    Calls Tryz.prog 28 #[.pointer (some ⟨v, 0, none⟩)] w fun e w' => ∃ gv, e = .returned (.tuple #[.slice (some ⟨gv, 0, none⟩) T.L.V T.L.V, .nilIface]) ∧ w.heap.size ≤ gv ∧ Rw w' gv T.L.V 9 (tX (reV kt T (blD kt T bl (dnS dn T.L.ns)))) ∧ Fr (fun j => j = q ∨ j = f ∨ j = v) w w' := by
  have hvl : v < w.heap.size := (Array.getElem?_eq_some_iff.1 hv).1
  have hF0 : Fr (fun j => j = v) w (w.setCell ⟨v, 0, none⟩ (.int .i32 1)) := (Fr.refl (fun j => j = v) w).set (.inl rfl) _ _
  refine Calls.mono (lk_repair v k w (fun val w' => ∃ gv, val = .tuple #[.slice (some ⟨gv, 0, none⟩) T.L.V T.L.V, .nilIface] ∧ w.heap.size ≤ gv ∧ Rw w' gv T.L.V 9 (tX (reV kt T (blD kt T bl (dnS dn T.L.ns)))) ∧ Fr (fun j => j = q ∨ j = f ∨ j = v) w w') hv ?_) ?_
  · refine Calls.mono (repair_ok kt B k g p q f T un ul rd bl dn zs bd _ (h.set hv (.inr rfl) _ _) hT hle hnm (hG.fr hF0 (fun e => h2 e.symm)) (Nat.le_trans hB hF0.size) ha) ?_
    rintro e w' ⟨zs', bd', gv, rfl, hgv, hR, hS, hF⟩
    have hv1 : VL v k 1 w' := by
      have h1 := VL.one hv
      have hS1 := h.set hv (.inr rfl) 0 (.int .i32 1)
      unfold VL at h1 ⊢
      rw [hF.old v (Array.getElem?_eq_some_iff.1 h1).1 (fun e => by
        rcases e with e | e
        · exact row_ne h1 hS1.blR (by decide) e
        · exact row_ne h1 hS1.fiR (by decide) e)]
      exact h1
    have hgv' : w.heap.size ≤ gv := Nat.le_trans hF0.size hgv
    refine ⟨_, _, rfl, hv1, gv, rfl, hgv', ?_, ?_⟩
    · show (w'.setCell ⟨v, 0, none⟩ (.int .i32 0)).heap[gv]? = _
      rw [set_other _ _ _ _ _ (by omega)]
      exact hR
    · exact ((hF0.mono (T := fun j => j = q ∨ j = f ∨ j = v) (fun j _ e => .inr (.inr e))).trans' (hF.mono (fun j _ e => by rcases e with e | e; exact .inl e; exact .inr (.inl e)))).set (.inl (.inr (.inr rfl))) _ _
  · rintro e w' ⟨a, b, rfl, gv, hval, h1, h2, h3⟩
    exact ⟨gv, by rw [hval], h1, h2, h3⟩
/-- nothing is told as wrong -/
def wholeB (kt : Nat → Int) (T : TT) (ul : List Nat) (rd : Nat → Bool) (bl : Nat → ByteArray) : Bool := decide (ul.length = 0 ∧ (abF rd T.L.V).length = 0 ∧ (baF kt T bl T.L.ns).length = 0 ∧ (fsF kt T bl 1 T.L.ns).length = 0 ∧ (fsF kt T bl 2 T.L.ns).length = 0)
theorem kwhole_any (kt : Nat → Int) (B v k g p q f : Nat) (T : TT) (un : Value) (ul : List Nat) (rd : Nat → Bool) (bl : Nat → ByteArray) (dn : Nat → Bool) (zs : Nat → Nat) (bd : Nat → Value) (w : World) (hv : VL v k 0 w) (h : VS kt B k g p q f T un ul rd bl dn zs bd w) (hT : Told1 T) (hle : T.L.es.length ≤ 16 ∧ lenE T.L.es ≤ 4096) (hul : ul.length ≤ 10000000000000) (hG : Gd kt w) (hB : B ≤ w.heap.size) (h2 : v ≠ 2) :
    Calls Tryz.prog 26 #[.pointer (some ⟨v, 0, none⟩)] w fun e w' => e = .returned (.bool (wholeB kt T ul rd bl)) ∧ VL v k 0 w' ∧ (∃ zs' bd', VS kt B k g p q f T un ul rd bl (dnS dn T.L.ns) zs' bd' w') ∧ Fr (fun j => j = q ∨ j = f ∨ j = v) w w' := by
  have HV : Hid _ := vverify kt B v k g p q f T un ul rd bl dn zs bd w hv h hT hle hul hG hB h2
  clear hv h hT hle hul hG
  go_enter Tryz.func26, Tryz.ntmps26
  go_wp2_with fail
  refine Calls.mono HV.out ?_
  rintro e w1 ⟨zs', bd', a, b, c, d, u, rfl, hv1, hS1, hF1, o1, o2, o3, o4, o5⟩
  obtain ⟨xa, ya, ha⟩ := own_shape o1
  obtain ⟨xb, yb, hb⟩ := own_shape o2
  obtain ⟨xc, yc, hc⟩ := own_shape o3
  obtain ⟨xd, yd, hd⟩ := own_shape o4
  obtain ⟨xu, yu, hu⟩ := own_shape o5
  have HR : Hid (wholeB kt T ul rd bl = decide (ul.length = 0 ∧ (abF rd T.L.V).length = 0 ∧ (baF kt T bl T.L.ns).length = 0 ∧ (fsF kt T bl 1 T.L.ns).length = 0 ∧ (fsF kt T bl 2 T.L.ns).length = 0)) := rfl
  generalize ul.length = n1 at *
  generalize (abF rd T.L.V).length = n2 at *
  generalize (baF kt T bl T.L.ns).length = n3 at *
  generalize (fsF kt T bl 1 T.L.ns).length = n4 at *
  generalize (fsF kt T bl 2 T.L.ns).length = n5 at *
  subst ha hb hc hd hu
  have HBA : Hid _ := (Below.refl w1.heap.size w1).alloc (Nat.le_refl _) (.cells (repC (.slice xa n1 ya) (.slice xb n2 yb) (.slice xc n3 yc) (.slice xd n4 yd) (.slice xu n5 yu)) 99)
  have HE : Hid (VL v k 0 (w1.alloc (.cells (repC (.slice xa n1 ya) (.slice xb n2 yb) (.slice xc n3 yc) (.slice xd n4 yd) (.slice xu n5 yu)) 99)) ∧ (∃ zs' bd', VS kt B k g p q f T un ul rd bl (dnS dn T.L.ns) zs' bd' (w1.alloc (.cells (repC (.slice xa n1 ya) (.slice xb n2 yb) (.slice xc n3 yc) (.slice xd n4 yd) (.slice xu n5 yu)) 99))) ∧ Fr (fun j => j = q ∨ j = f ∨ j = v) w (w1.alloc (.cells (repC (.slice xa n1 ya) (.slice xb n2 yb) (.slice xc n3 yc) (.slice xd n4 yd) (.slice xu n5 yu)) 99))) :=
    ⟨(HBA.out.block v (Array.getElem?_eq_some_iff.1 hv1).1).trans hv1, ⟨zs', bd', hS1.below HBA.out⟩, hF1.thenBelow HBA.out⟩
  unfold repC at HE ⊢
  clear hv1 hS1 hF1 o1 o2 o3 o4 o5
  by_cases e1 : n1 = 0
  · by_cases e2 : n2 = 0
    · by_cases e3 : n3 = 0
      · by_cases e4 : n4 = 0
        · by_cases e5 : n5 = 0
          · subst e1 e2 e3 e4 e5
            go_wp2_with fail
            go_ret
            exact ⟨by rw [HR.out]; rfl, HE.out⟩
          · have b5 : ((n5 : Int) == 0) = false := by simp; omega
            subst e1 e2 e3 e4
            go_wp2_with fail
            go_ret
            exact ⟨by rw [HR.out, decide_eq_false (by simp [e5])]; rfl, HE.out⟩
        · have b4 : ((n4 : Int) == 0) = false := by simp; omega
          subst e1 e2 e3
          go_wp2_with fail
          go_ret
          exact ⟨by rw [HR.out, decide_eq_false (by simp [e4])]; rfl, HE.out⟩
      · have b3 : ((n3 : Int) == 0) = false := by simp; omega
        subst e1 e2
        go_wp2_with fail
        go_ret
        exact ⟨by rw [HR.out, decide_eq_false (by simp [e3])]; rfl, HE.out⟩
    · have b2 : ((n2 : Int) == 0) = false := by simp; omega
      subst e1
      go_wp2_with fail
      go_ret
      exact ⟨by rw [HR.out, decide_eq_false (by simp [e2])]; rfl, HE.out⟩
  · have b1 : ((n1 : Int) == 0) = false := by simp; omega
    go_wp2_with fail
    go_ret
    exact ⟨by rw [HR.out, decide_eq_false (by simp [e1])]; rfl, HE.out⟩
end Go.Proofs.YtadinjaocnlglaaGreatDoor
namespace Go.Proofs.YtadinjaocnlglaaGreatDoor
open Go.RowKit
set_option maxRecDepth 100000
set_option maxHeartbeats 4000000
theorem SS.vs {kt : Nat → Int} {B k g p q f : Nat} {T : TT} {un : Value} {ul : List Nat} {rd : Nat → Bool} {bl : Nat → ByteArray} {w : World} (h : SS B k g p q f T un rd bl w) (hu : w.ownsRow B 3 1 un ul.length (unV ul)) : VS kt B k g p q f T un ul rd bl (fun _ => false) (fun _ => 0) (fun _ => .slice none 0 0) w where
  row := h.row
  hd := h.hd
  unO := hu
  rdR := h.rdR
  blR := by rw [blD_none]; exact h.blR
  fiR := h.fiR.to (fun j _ => by simp [piF, fiP])
  fn := fun s _ hd => by cases hd
/-- volumes that can be opened -/
def Opn (kt : Nat → Int) (rt : ByteArray) (L : Nat → ByteArray) (n : Nat) (s : OS) (t0 : ByteArray) : Prop := (rt.size = 0 ∨ rt.size = 32) ∧ OS.run kt rt 0 (texL L n) OS.new = .ok s ∧ s.hd = some t0
/-- a Vault that was opened -/
def VNew (kt : Nat → Int) (rt : ByteArray) (L : Nat → ByteArray) (n B v : Nat) (w : World) : Prop :=
  ∃ s t0 k g p q f un, Opn kt rt L n s t0 ∧ rdE kt t0 = none ∧ B ≤ v ∧ (B ≤ q ∧ B ≤ f) ∧ VL v k 0 w ∧ VS kt B k g p q f (RS.on t0).told un s.un s.rd s.bl (fun _ => false) (fun _ => 0) (fun _ => .slice none 0 0) w
/-- what vault.Open has answered -/
def VOp (kt : Nat → Int) (rt : ByteArray) (L : Nat → ByteArray) (n : Nat) (w : World) (e : Ending) (w' : World) : Prop := Below w.heap.size w w' ∧
  (((∃ z, e = .returned (.tuple #[.pointer none, .iface 305 (.pointer (some ⟨z, 0, none⟩))])) ∧ ∀ s t0, ¬ Opn kt rt L n s t0) ∨ ∃ v, e = .returned (.tuple #[.pointer (some ⟨v, 0, none⟩), .nilIface]) ∧ VNew kt rt L n w.heap.size v w')
theorem vopen (kt : Nat → Int) (rt : ByteArray) (L : Nat → ByteArray) (n : Nat) (v : Value) (w : World) (hG : Gd kt w) (hn : n ≤ 10000000000000) (hL : ∀ i, i < n → (L i).size ≤ 140737488351232) (hv : (n = 0 ∧ v = .slice none 0 0) ∨ ∃ b cap, v = .slice (some ⟨b, 0, none⟩) n cap ∧ b < w.heap.size ∧ Cl w b n (tI L)) :
    Calls Tryz.prog 60 #[v, .string rt] w fun e w' => VOp kt rt L n w e w' := by
  have HS : Hid (Calls Tryz.prog 104 #[v, .string rt] w fun e w' => Below w.heap.size w w' ∧ (((∃ z, e = .returned (.tuple #[.pointer none, .iface 305 (.pointer (some ⟨z, 0, none⟩))])) ∧ ∀ s t0, ¬ Opn kt rt L n s t0) ∨ ∃ k s t0 g p q f un, e = .returned (.tuple #[.pointer (some ⟨k, 0, none⟩), .nilIface]) ∧ Opn kt rt L n s t0 ∧ rdE kt t0 = none ∧ (w.heap.size ≤ q ∧ w.heap.size ≤ f) ∧ VS kt w.heap.size k g p q f (RS.on t0).told un s.un s.rd s.bl (fun _ => false) (fun _ => 0) (fun _ => .slice none 0 0) w')) := by
    by_cases hrt : rt.size = 0 ∨ rt.size = 32
    · rcases hv with ⟨rfl, rfl⟩ | ⟨b, cap, rfl, hb, hC⟩
      · refine Calls.mono (sopen_nil rt w hrt) ?_
        rintro e w' ⟨v, rfl, ⟨z, hz, _⟩, hB⟩
        cases hz
        refine ⟨hB, .inl ⟨⟨z, rfl⟩, fun s t0 ho => ?_⟩⟩
        obtain ⟨_, h1, h2⟩ := ho
        cases h1
        cases h2
      · refine Calls.mono (sopen kt rt L b n cap w hG hb hC hn hL hrt) ?_
        rintro e w' ⟨hO, hB⟩
        refine ⟨hB, ?_⟩
        unfold OpD at hO
        cases hr : OS.run kt rt 0 (texL L n) OS.new with
        | error ab =>
          obtain ⟨a, b'⟩ := ab
          rw [hr] at hO
          obtain ⟨v, rfl, z, hz, _⟩ := hO
          cases hz
          exact .inl ⟨⟨z, rfl⟩, fun s t0 ho => by have := ho.2.1; rw [hr] at this; cases this⟩
        | ok s =>
          rw [hr] at hO
          rcases hO with ⟨hd, v, rfl, h0, h1⟩ | ⟨hd, k, rfl, hI⟩
          · refine .inl ⟨?_, fun s' t0 ho => by have := ho.2.1; rw [hr] at this; cases this; have := ho.2.2; rw [hd] at this; cases this⟩
            rcases Nat.eq_zero_or_pos n with hn0 | hn0
            · obtain ⟨z, hz, _⟩ := h0 hn0
              cases hz
              exact ⟨z, rfl⟩
            · have hb := first_bad hr hn0 hd
              cases hs : sdE kt rt (L 0) with
              | none => exact absurd hs hb
              | some kp =>
                obtain ⟨z, y, x, hz, _⟩ := h1 hn0 kp.1 kp.2 hs
                cases hz
                exact ⟨_, rfl⟩
          · obtain ⟨un, hun, hc⟩ := hI
            rcases hc with ⟨e, _⟩ | ⟨t0, g, p, q, f, hd0, hr0, hpB, hqB, hfB, hS⟩
            · exact absurd e hd
            · exact .inr ⟨k, s, t0, g, p, q, f, un, rfl, ⟨hrt, hr, hd0⟩, hr0, ⟨hqB, hfB⟩, hS.vs hun⟩
    · refine Calls.mono (sopen_root rt v w (fun e => hrt (.inl e)) (fun e => hrt (.inr e))) ?_
      rintro e w' ⟨z, rfl, _, hB⟩
      exact ⟨hB, .inl ⟨⟨z, rfl⟩, fun s t0 ho => hrt ho.1⟩⟩
  clear hG hn hL hv
  go_enter Tryz.func60, Tryz.ntmps60
  go_wp2_with fail
  refine Calls.mono HS.out ?_
  rintro e w1 ⟨hB, ⟨⟨z, rfl⟩, hno⟩ | ⟨k, s, t0, g, p, q, f, un, rfl, hop, hr0, hq, hV⟩⟩
  · have HB : Hid _ := hB
    have HN : Hid _ := hno
    clear hB hno
    go_wp2_with fail
    go_ret2
    exact ⟨HB.out, .inl ⟨⟨z, rfl⟩, HN.out⟩⟩
  · have hbA : Below w1.heap.size w1 (w1.alloc (.cells (wC 0 k) 159)) := (Below.refl _ _).alloc (Nat.le_refl _) _
    have HE : Hid (VNew kt rt L n w.heap.size w1.heap.size (w1.alloc (.cells (wC 0 k) 159))) := ⟨s, t0, k, g, p, q, f, un, hop, hr0, hB.size, hq, heap_alloc_new _ _, hV.below hbA⟩
    have HB : Hid (Below w.heap.size w (w1.alloc (.cells (wC 0 k) 159))) := hB.trans (hbA.mono hB.size)
    clear hB hop hr0 hq hV hbA
    go_wp2_with fail
    go_ret2
    exact ⟨HB.out, .inr ⟨w1.heap.size, rfl, HE.out⟩⟩
/-- a list that was handed in -/
def RawT (w : World) (a : Option Addr) (n cap : Nat) (L : Nat → ByteArray) : Prop := (a = none ∧ n = 0 ∧ cap = 0) ∨ ∃ ad : Addr, a = some ad ∧ ∀ i, i < n → ∃ b off, ad = ⟨b, off, none⟩ ∧ b < w.heap.size ∧ w.cell? ⟨b, off + i, none⟩ = some (.string (L i))
theorem info9p : (Tryz.prog.info? 9).map (fun i => (i.zero, i.size, i.bytes)) = some (some (.string ⟨#[]⟩), 1, 16) := by kernel_rfl
/-- its copy -/
theorem own_copy (w : World) (a : Option Addr) (n cap : Nat) (L : Nat → ByteArray) (h : RawT w a n cap L) (hn : n * 16 ≤ 140737488351232) : ∃ v w', (Builtin.append_ #[42, 42] 42 #[.slice none 0 0, .slice a n cap]).run Tryz.prog w = .ok v w' ∧ ((n = 0 ∧ v = .slice none 0 0) ∨ (0 < n ∧ w'.ownsRow w.heap.size 9 1 v n (tV L n))) ∧ Below w.heap.size w w' := by
  obtain ⟨i0, hi0, z0, z1, z2⟩ := info_parts info9p
  have hnil : w.ownsRow w.heap.size 9 1 (.slice none 0 0) 0 [] := ⟨rfl, .inl ⟨rfl, rfl⟩⟩
  rcases h with ⟨rfl, rfl, rfl⟩ | ⟨ad, rfl, hc⟩
  · exact ⟨_, w, run_append_owned_none _ w.heap.size 42 42 9 i0 1 Tryz.underlying42 hi0 _ 0 [] hnil, .inl ⟨rfl, rfl⟩, Below.refl _ _⟩
  · obtain ⟨v', w', hr, ho, hg, hiff⟩ := run_append_own (P := Tryz.prog) w w.heap.size 42 42 9 i0 (.string ⟨#[]⟩) 1 16 Tryz.underlying42 hi0 z0 z1 z2 rfl (by decide) (.slice none 0 0) 0 [] hnil ad n cap (tV L n) (by rw [tV_len]; omega) (fun j u hj => by
      have hjn : j < n := by have := (List.getElem?_eq_some_iff.1 hj).1; rwa [tV_len] at this
      obtain ⟨b, off, rfl, _, h2⟩ := hc j hjn
      rw [Addr.add_lit, h2]
      simp [tV, hjn] at hj
      rw [hj]) (tV_one _ _) (by unfold maxLen; omega) (by omega) (Nat.le_refl _)
    rw [Nat.zero_add, List.nil_append] at ho
    have hB : Below w.heap.size w w' := (Below.refl _ _).grown hg (Nat.le_refl _) (fun y hy => by cases hy)
    rcases Nat.eq_zero_or_pos n with h0 | h0
    · exact ⟨v', w', hr, .inl ⟨h0, hiff.2 ⟨rfl, h0⟩⟩, hB⟩
    · exact ⟨v', w', hr, .inr ⟨h0, ho⟩, hB⟩
theorem own_row9 {w : World} {B n : Nat} {v : Value} {L : Nat → ByteArray} (h : w.ownsRow B 9 1 v n (tV L n)) (hn : 0 < n) : ∃ g cap, v = .slice (some ⟨g, 0, none⟩) n cap ∧ B ≤ g ∧ g < w.heap.size ∧ Cl w g n (tI L) := by
  rcases h.2 with ⟨_, h0⟩ | ⟨g, cap, cur, hv, hb, hh, _⟩
  · omega
  · refine ⟨g, cap, hv, hb, (Array.getElem?_eq_some_iff.1 hh).1, fun i hi => ?_⟩
    have := h.cells (g := g) (by rw [hv]; rfl) i (.string (L i)) (by simp [tV, hi])
    rw [Addr.add_lit, Nat.zero_add] at this
    exact this
/-- what opened has answered -/
def KOp (kt : Nat → Int) (rt : ByteArray) (L : Nat → ByteArray) (n : Nat) (w : World) (e : Ending) (w' : World) : Prop := Below w.heap.size w w' ∧
  ((e = .returned (.pointer none) ∧ ∀ s t0, ¬ Opn kt rt L n s t0) ∨ ∃ B v, e = .returned (.pointer (some ⟨v, 0, none⟩)) ∧ w.heap.size ≤ B ∧ B ≤ w'.heap.size ∧ VNew kt rt L n B v w')
theorem opened_any (kt : Nat → Int) (rt : ByteArray) (L : Nat → ByteArray) (a : Option Addr) (n cap : Nat) (w : World) (hG : Gd kt w) (hn : n * 16 ≤ 140737488351232) (hL : ∀ i, i < n → (L i).size ≤ 140737488351232) (hR : RawT w a n cap L) :
    Calls Tryz.prog 21 #[.slice a n cap, .string rt] w fun e w' => KOp kt rt L n w e w' := by
  obtain ⟨v', w1, hr, hcase, hB⟩ := own_copy w a n cap L hR hn
  have HV : Hid _ := vopen kt rt L n v' w1 (hG.below hB) (by omega) hL (by
    rcases hcase with h | ⟨h0, ho⟩
    · exact .inl h
    · obtain ⟨g, c, rfl, _, hg, hC⟩ := own_row9 ho h0
      exact .inr ⟨g, c, rfl, hg, hC⟩)
  have HRUN : Hid _ := hr
  have HB : Hid _ := hB
  clear hr hcase hB hL hR hG
  go_enter Tryz.func21, Tryz.ntmps21
  go_wp2_with (at_builtin; refine wpList_app rfl (.tmp 8) (.tmp 9) 42 rfl _ _ _ (by simp [Act.eval]) (by simp [Act.eval]) _ HRUN.out ?_)
  refine Calls.mono HV.out ?_
  rintro e w2 ⟨hB2, ⟨⟨z, rfl⟩, hno⟩ | ⟨v, rfl, hVN⟩⟩
  · have HB2 : Hid _ := HB.out.trans (hB2.mono HB.out.size)
    have HN : Hid _ := hno
    clear hB2 hno
    go_wp2_with fail
    go_ret
    exact ⟨HB2.out, .inl ⟨rfl, HN.out⟩⟩
  · have HB2 : Hid _ := HB.out.trans (hB2.mono HB.out.size)
    have HSZ : Hid _ := hB2.size
    have HN : Hid _ := hVN
    clear hB2 hVN
    go_wp2_with fail
    go_ret
    exact ⟨HB2.out, .inr ⟨w1.heap.size, v, rfl, HB.out.size, HSZ.out, HN.out⟩⟩
end Go.Proofs.YtadinjaocnlglaaGreatDoor
namespace Go.Proofs.YtadinjaocnlglaaGreatDoor
open Go.RowKit
set_option maxRecDepth 100000
set_option maxHeartbeats 1000000
theorem pigeon : ∀ (V n : Nat) (f : Nat → Nat), (∀ j, j < n → f j < V) → (∀ j k, j < n → k < n → j ≠ k → f j ≠ f k) → n ≤ V
  | 0, n, f, h, _ => by
    rcases Nat.eq_zero_or_pos n with e | e
    · omega
    · exact absurd (h 0 e) (by omega)
  | V + 1, n, f, h, hd => by
    by_cases he : ∃ j, j < n ∧ f j = V
    · obtain ⟨j0, hj0, ej⟩ := he
      have := pigeon V (n - 1) (fun j => if j = j0 then f (n - 1) else f j) (fun j hj => by
        show (if j = j0 then f (n - 1) else f j) < V
        by_cases e : j = j0
        · rw [if_pos e]
          have h1 := h (n - 1) (by omega)
          have h2 := hd (n - 1) j0 (by omega) hj0 (by omega)
          omega
        · rw [if_neg e]
          have h1 := h j (by omega)
          have h2 := hd j j0 (by omega) hj0 e
          omega) (fun j k hj hk hne => by
        show (if j = j0 then f (n - 1) else f j) ≠ (if k = j0 then f (n - 1) else f k)
        by_cases e : j = j0
        · rw [if_pos e, if_neg (by omega)]
          exact hd (n - 1) k (by omega) (by omega) (by omega)
        · rw [if_neg e]
          by_cases e2 : k = j0
          · rw [if_pos e2]
            exact hd j (n - 1) (by omega) (by omega) (by omega)
          · rw [if_neg e2]
            exact hd j k (by omega) (by omega) hne)
      omega
    · have := pigeon V n f (fun j hj => by
        have h1 := h j hj
        have h2 : f j ≠ V := fun e => he ⟨j, hj, e⟩
        omega) hd
      omega
theorem stF_cases (kt : Nat → Int) (T : TT) (bl : Nat → ByteArray) (s : Nat) : stF kt T bl s = 0 ∨ stF kt T bl s = 1 ∨ stF kt T bl s = 2 := by
  unfold stF fate
  split
  · exact .inr (.inl rfl)
  · split
    · exact .inr (.inr rfl)
    · exact .inl rfl
theorem fsF_nil {kt : Nat → Int} {T : TT} {bl : Nat → ByteArray} {c : Nat} : ∀ n, (fsF kt T bl c n).length = 0 → ∀ s, s < n → stF kt T bl s ≠ c
  | 0, _, s, hs => by omega
  | n + 1, h, s, hs => by
    rw [fsF] at h
    split at h
    · simp at h
    · rename_i hn
      by_cases e : s = n
      · subst e; exact hn
      · exact fsF_nil n h s (by omega)
theorem abF_nil {rd : Nat → Bool} : ∀ n, (abF rd n).length = 0 → ∀ s, s < n → rd s = true
  | 0, _, s, hs => by omega
  | n + 1, h, s, hs => by
    rw [abF] at h
    split at h
    · rename_i hn
      by_cases e : s = n
      · subst e; exact hn
      · exact abF_nil n h s (by omega)
    · simp at h
theorem badF_nil {h : Nat → Bool} {o : Nat} : ∀ n, (badF h o n).length = 0 → ∀ s, s < n → h s = true
  | 0, _, s, hs => by omega
  | n + 1, hh, s, hs => by
    rw [badF] at hh
    split at hh
    · rename_i hn
      by_cases e : s = n
      · subst e; exact hn
      · exact badF_nil n hh s (by omega)
    · simp at hh
theorem baF_nil {kt : Nat → Int} {T : TT} {bl : Nat → ByteArray} : ∀ n, (baF kt T bl n).length = 0 → ∀ s, s < n → (stB kt T bl s).length = 0
  | 0, _, s, hs => by omega
  | n + 1, h, s, hs => by
    rw [baF, List.length_append] at h
    by_cases e : s = n
    · subst e; omega
    · exact baF_nil n (by omega) s (by omega)
theorem reV_congr {kt : Nat → Int} {T : TT} {A B : Nat → ByteArray} (h : ∀ x, x < T.L.cnt → A x = B x) (hV : 1 ≤ T.L.V) {v : Nat} (hv : v < T.L.V) : reV kt T A v = reV kt T B v := by
  have hl : ∀ i, i < T.L.cnt → leafT (ofT kt) (A i) = leafT (ofT kt) (B i) := fun i hi => by rw [h i hi]
  have h1 : rootT (ofT kt) T.ls T.L.cnt (fun i => leafT (ofT kt) (A i)) = rootT (ofT kt) T.ls T.L.cnt (fun i => leafT (ofT kt) (B i)) := by
    unfold rootT
    rw [topT_congr (ofT kt) T.L.cnt T.L.cnt _ _ (Nat.le_refl _) hl]
  have h2 : jT (fun i => leafT (ofT kt) (A i)) T.L.cnt = jT (fun i => leafT (ofT kt) (B i)) T.L.cnt := jT_congr hl
  have h3 : jT (fun i => A (v * T.L.cnt / T.L.V + i)) ((v + 1) * T.L.cnt / T.L.V - v * T.L.cnt / T.L.V) = jT (fun i => B (v * T.L.cnt / T.L.V + i)) ((v + 1) * T.L.cnt / T.L.V - v * T.L.cnt / T.L.V) := jT_congr (fun i hi => by
    refine h _ ?_
    have : (v + 1) * T.L.cnt / T.L.V ≤ T.L.cnt := Nat.le_trans (Nat.div_le_div_right (Nat.mul_le_mul_right _ hv)) (by rw [Nat.mul_div_cancel_left _ hV]; exact Nat.le_refl _)
    omega)
  unfold reV volT toldT
  rw [h1, h2, h3]
/-- params and leaves that are the same -/
structure TEq (T T' : TT) : Prop where
  K : T'.L.K = T.L.K
  M : T'.L.M = T.L.M
  C : T'.L.C = T.L.C
  V : T'.L.V = T.L.V
  es : T'.L.es = T.L.es
  lv : T'.lv = T.lv
theorem TEq.n {T T' : TT} (h : TEq T T') : T'.n = T.n := by unfold TT.n; rw [h.K, h.M]
theorem TEq.cnt {T T' : TT} (h : TEq T T') : T'.L.cnt = T.L.cnt := by unfold LT.cnt; rw [h.K, h.M, h.C, h.es]
theorem TEq.ns {T T' : TT} (h : TEq T T') : T'.L.ns = T.L.ns := by unfold LT.ns; rw [h.K, h.C, h.es]
theorem TEq.stF {T T' : TT} (h : TEq T T') (kt : Nat → Int) (bl : Nat → ByteArray) (s : Nat) : stF kt T' bl s = Go.Proofs.YtadinjaocnlglaaGreatDoor.stF kt T bl s := by
  have e1 : stS T' bl s = stS T bl s := by unfold stS; rw [h.n]
  have e2 : stH kt T' bl s = stH kt T bl s := by unfold stH; rw [h.n, h.C, h.lv]
  unfold Go.Proofs.YtadinjaocnlglaaGreatDoor.stF
  rw [e1, e2, h.K, h.M, h.C, h.lv, h.es]
theorem TEq.reV {T T' : TT} (h : TEq T T') (kt : Nat → Int) (A : Nat → ByteArray) : reV kt T' A = Go.Proofs.YtadinjaocnlglaaGreatDoor.reV kt T A := by
  have e1 : T'.ls = T.ls := by unfold TT.ls; rw [h.K, h.M, h.C, h.V, h.es]
  unfold Go.Proofs.YtadinjaocnlglaaGreatDoor.reV
  rw [e1, h.cnt, h.V]
/-- all that Clean asks of volumes that were opened and are whole -/
theorem clean_plain {kt : Nat → Int} {rt : ByteArray} {L : Nat → ByteArray} {n : Nat} {s : OS} {t0 : ByteArray} (ho : Opn kt rt L n s t0) (hw : wholeB kt (tT t0) s.un s.rd s.bl = true) :
    n = (tT t0).L.V ∧ n ≤ 16 ∧ (∀ st, st < (tT t0).L.ns → stF kt (tT t0) s.bl st = 0) ∧
    ∃ Lb : Nat → ByteArray, (∀ dn : Nat → Bool, (∀ st, st < (tT t0).L.ns → dn st = true) → ∀ v, v < n → reV kt (tT t0) (blD kt (tT t0) s.bl dn) v = Lb v) ∧ (∀ v, v < n → ∃ j, j < n ∧ L j = Lb v) ∧ (∀ u v, u < n → v < n → u ≠ v → Lb u ≠ Lb v) ∧
      ∃ s' t', Opn kt rt Lb n s' t' ∧ (tT t').L.V = n ∧ (∀ st, st < (tT t').L.ns → stF kt (tT t') s'.bl st = 0) ∧ (∀ dn : Nat → Bool, (∀ st, st < (tT t').L.ns → dn st = true) → ∀ v, v < n → reV kt (tT t') (blD kt (tT t') s'.bl dn) v = Lb v) := by
  obtain ⟨hrt, hrun, hhd⟩ := ho
  obtain ⟨w1, w2, w3, w4, w5⟩ := of_decide_eq_true hw
  obtain ⟨hG, rfl⟩ := run_good n s hrun (List.length_eq_zero_iff.1 w1)
  have hn : 0 < n := by
    rcases Nat.eq_zero_or_pos n with e | e
    · subst e; cases hhd
    · exact e
  have ht0 : L 0 = t0 := by unfold stO at hhd; rw [if_neg (by omega)] at hhd; exact Option.some.inj hhd
  subst ht0
  have hO := hG.one hn
  have hT : Told1 (tT (L 0)) := ck_ok (rd_none (hO.rd 0 hn)).2.1
  have hn0 : 0 < (tT (L 0)).n := by have := hT.k1; unfold TT.n; exact Nat.lt_of_lt_of_le this (Nat.le_add_right _ _)
  have hall : ∀ st, st < (tT (L 0)).L.ns → stF kt (tT (L 0)) (blL L n) st = 0 := fun st hst => by
    rcases stF_cases kt (tT (L 0)) (blL L n) st with h | h | h
    · exact h
    · exact absurd h (fsF_nil _ w4 st hst)
    · exact absurd h (fsF_nil _ w5 st hst)
  have hgH : ∀ x, x < (tT (L 0)).L.cnt → x / (tT (L 0)).n < (tT (L 0)).L.ns ∧ stH kt (tT (L 0)) (blL L n) (x / (tT (L 0)).n) (x % (tT (L 0)).n) = true := fun x hx => by
    have hs : x / (tT (L 0)).n < (tT (L 0)).L.ns := by rw [Nat.div_lt_iff_lt_mul hn0]; exact hx
    exact ⟨hs, badF_nil _ (baF_nil _ w3 _ hs) _ (Nat.mod_lt _ hn0)⟩
  have hmod : ∀ x, x / (tT (L 0)).n * (tT (L 0)).n + x % (tT (L 0)).n = x := fun x => by rw [Nat.mul_comm]; exact Nat.div_add_mod x _
  have hg : ∀ x, x < (tT (L 0)).L.cnt → goodB kt (tT (L 0)).L.C (tT (L 0)).lv x (blL L n x) = true := fun x hx => by
    have := (hgH x hx).2
    unfold stH at this
    rw [hmod] at this
    exact this
  have hbl : ∀ dn : Nat → Bool, (∀ st, st < (tT (L 0)).L.ns → dn st = true) → ∀ x, x < (tT (L 0)).L.cnt → blD kt (tT (L 0)) (blL L n) dn x = blL L n x := fun dn hd x hx => by
    obtain ⟨e1, e2⟩ := blD_all (kt := kt) (bl := blL L n) hn0 hd hall hx
    rw [e1, ((whole_ok (hall _ e2)).1 _ (Nat.mod_lt _ hn0)).2 (hgH x hx).2]
    unfold stS
    rw [hmod]
  have hsame : ∀ j, j < n → L j = reV kt (tT (L 0)) (blL L n) (tT (L j)).num := fun j hj => hO.same hg rfl rfl rfl rfl rfl rfl hj
  have hcov : ∀ v, v < (tT (L 0)).L.V → ∃ j, j < n ∧ (tT (L j)).num = v := fun v hv => (rdL_iff L n v).1 (abF_nil _ w2 v hv)
  have hnv : n = (tT (L 0)).L.V := by
    have h1 : n ≤ (tT (L 0)).L.V := pigeon _ n (fun j => (tT (L j)).num) (fun j hj => by
      have := (rng_fit (hO.rd j hj)).1
      rw [hO.V j hj] at this
      exact this) hO.ne
    have h2 : (tT (L 0)).L.V ≤ n := by
      have hch : ∃ g : Nat → Nat, ∀ v, v < (tT (L 0)).L.V → g v < n ∧ (tT (L (g v))).num = v :=
        ⟨fun v => if h : v < (tT (L 0)).L.V then Classical.choose (hcov v h) else 0, fun v hv => by
          show (if h : v < (tT (L 0)).L.V then Classical.choose (hcov v h) else 0) < n ∧ (tT (L (if h : v < (tT (L 0)).L.V then Classical.choose (hcov v h) else 0))).num = v
          rw [dif_pos hv]
          exact Classical.choose_spec (hcov v hv)⟩
      obtain ⟨g, hgv⟩ := hch
      exact pigeon n _ g (fun v hv => (hgv v hv).1) (fun u v hu hv hne e => hne (by rw [← (hgv u hu).2, ← (hgv v hv).2, e]))
    omega
  have hV16 : (tT (L 0)).L.V ≤ 16 := hT.v16
  have hLb : ∀ v, v < n → ∃ j, j < n ∧ (tT (L j)).num = v ∧ L j = reV kt (tT (L 0)) (blL L n) v := fun v hv => by
    obtain ⟨j, hj, e⟩ := hcov v (by omega)
    exact ⟨j, hj, e, by rw [hsame j hj, e]⟩
  obtain ⟨Lb, hLbe⟩ : ∃ Lb, reV kt (tT (L 0)) (blL L n) = Lb := ⟨_, rfl⟩
  rw [hLbe] at hLb
  have hnum : ∀ v, v < n → (tT (Lb v)).num = v := fun v hv => by
    obtain ⟨j, hj, e, e2⟩ := hLb v hv
    rw [← e2]; exact e
  have hGb : GoodL kt rt Lb n := fun v hv => by
    obtain ⟨j, hj, e, e2⟩ := hLb v hv
    obtain ⟨j0, hj0, e0, e20⟩ := hLb 0 hn
    refine ⟨by rw [← e2]; exact (hG j hj).1, ?_, fun u hu => ?_⟩
    · rw [← e2, ← e20]
      have a := (hG j hj).2.1
      have b := (hG j0 hj0).2.1
      exact ⟨b.1.symm.trans a.1, b.2.1.symm.trans a.2.1, b.2.2.symm.trans a.2.2⟩
    · rw [hnum u (by omega), hnum v hv]; omega
  have hOb := hGb.one hn
  have hTE : TEq (tT (L 0)) (tT (Lb 0)) := by
    obtain ⟨j0, hj0, e0, e20⟩ := hLb 0 hn
    rw [← e20]
    exact ⟨hO.K j0 hj0, hO.M j0 hj0, hO.C j0 hj0, hO.V j0 hj0, hO.es j0 hj0, hO.lv j0 hj0⟩
  have hblb : blL Lb n = blL L n := by
    funext x
    by_cases hc : ∃ j, j < n ∧ ((tT (L j)).first ≤ x ∧ x < (tT (L j)).first + nB (L j))
    · obtain ⟨j, hj, h1, h2⟩ := hc
      have hv : (tT (L j)).num < n := by
        have := (rng_fit (hO.rd j hj)).1
        rw [hO.V j hj] at this
        omega
      have e2 : Lb (tT (L j)).num = L j := by rw [← hLbe]; exact (hsame j hj).symm
      have a := bl_in n hO j (x - (tT (L j)).first) hj (by omega)
      have b := bl_in n hOb (tT (L j)).num (x - (tT (L j)).first) hv (by rw [e2]; omega)
      rw [e2] at b
      rw [show (tT (L j)).first + (x - (tT (L j)).first) = x by omega] at a b
      rw [a, b, hTE.C]
    · rw [bl_out n (fun j hj h => hc ⟨j, hj, h⟩), bl_out n (fun v hv h => by
        obtain ⟨j, hj, _, e2⟩ := hLb v hv
        rw [← e2] at h
        exact hc ⟨j, hj, h⟩)]
  refine ⟨hnv, by omega, hall, Lb, fun dn hd v hv => ?_, fun v hv => ?_, fun u v hu hv hne e => ?_, stO Lb n, Lb 0, ⟨hrt, good_run n hGb, by unfold stO; rw [if_neg (by omega)]⟩, by rw [hTE.V]; exact hnv.symm, fun st hst => ?_, fun dn hd v hv => ?_⟩
  · rw [← hLbe]
    exact reV_congr (hbl dn hd) hT.v1 (by rw [← hnv]; exact hv)
  · obtain ⟨j, hj, _, e2⟩ := hLb v hv
    exact ⟨j, hj, e2⟩
  · have := hnum u hu
    rw [e, hnum v hv] at this
    exact hne this.symm
  · show stF kt (tT (Lb 0)) (blL Lb n) st = 0
    rw [hblb, hTE.stF]
    exact hall st (by rw [← hTE.ns]; exact hst)
  · show reV kt (tT (Lb 0)) (blD kt (tT (Lb 0)) (blL Lb n) dn) v = Lb v
    have hbD : blD kt (tT (Lb 0)) (blL Lb n) dn = blD kt (tT (L 0)) (blL L n) dn := by
      funext x
      have e1 : stM kt (tT (Lb 0)) (blL L n) = stM kt (tT (L 0)) (blL L n) := by
        funext s x
        unfold stM
        have f1 : stS (tT (Lb 0)) (blL L n) s = stS (tT (L 0)) (blL L n) s := by unfold stS; rw [hTE.n]
        have f2 : stH kt (tT (Lb 0)) (blL L n) s = stH kt (tT (L 0)) (blL L n) s := by unfold stH; rw [hTE.n, hTE.C, hTE.lv]
        rw [f1, f2, hTE.K, hTE.M, hTE.C]
      unfold blD
      rw [hblb, hTE.n, hTE.stF, e1]
    rw [hbD, hTE.reV, ← hLbe]
    exact reV_congr (hbl dn (fun st hst => hd st (by rw [hTE.ns]; exact hst))) hT.v1 (by rw [← hnv]; exact hv)
end Go.Proofs.YtadinjaocnlglaaGreatDoor
namespace Go.Proofs.YtadinjaocnlglaaGreatDoor
open Go.RowKit
set_option maxRecDepth 100000
set_option maxHeartbeats 1000000
theorem setCells_row (g : Nat) (t : TypeId) (fr : Nat × Nat) : ∀ (vs : List Value) (o : Nat) (w : World) (cur : Array Value), w.heap[g]? = some (.cells cur t fr) →
    ∃ cur', (w.setCells g o vs).heap[g]? = some (.cells cur' t fr) ∧ cur'.size = cur.size ∧ ∀ i, i < cur.size → cur'[i]? = if o ≤ i ∧ i < o + vs.length then vs[i - o]? else cur[i]?
  | [], o, w, cur, h => ⟨cur, h, rfl, fun i _ => by rw [if_neg (by simp)]⟩
  | v :: r, o, w, cur, h => by
    obtain ⟨cur', h1, h2, h3⟩ := setCells_row g t fr r (o + 1) (w.setCell ⟨g, o, none⟩ v) (cur.setIfInBounds o v) (set_heap w g o v cur t fr h)
    refine ⟨cur', h1, by simpa using h2, fun i hi => ?_⟩
    rw [h3 i (by simpa using hi)]
    by_cases e : i = o
    · subst e
      rw [if_neg (by omega), if_pos (by simp)]
      simp [hi]
    · by_cases e2 : o + 1 ≤ i ∧ i < o + 1 + r.length
      · rw [if_pos e2, if_pos (by simp; omega)]
        obtain ⟨k, rfl⟩ : ∃ k, i = o + 1 + k := ⟨i - (o + 1), by omega⟩
        rw [show o + 1 + k - (o + 1) = k by omega, show o + 1 + k - o = k + 1 by omega]
        rfl
      · rw [if_neg e2, if_neg (by simp; omega), Array.getElem?_setIfInBounds, if_neg (Ne.symm e)]
theorem setCells_other (g j : Nat) (h : j ≠ g) : ∀ (vs : List Value) (o : Nat) (w : World), (w.setCells g o vs).heap[j]? = w.heap[j]?
  | [], _, _ => rfl
  | v :: r, o, w => (setCells_other g j h r (o + 1) (w.setCell ⟨g, o, none⟩ v)).trans (set_other w g o j v h)
theorem setCells_size (g : Nat) : ∀ (vs : List Value) (o : Nat) (w : World), (w.setCells g o vs).heap.size = w.heap.size
  | [], _, _ => rfl
  | v :: r, o, w => (setCells_size g r (o + 1) (w.setCell ⟨g, o, none⟩ v)).trans (by simp [World.setCell])
theorem setCells_calm (g : Nat) : ∀ (vs : List Value) (o : Nat) (w : World), Calm w (w.setCells g o vs)
  | [], _, _ => ⟨rfl, rfl, rfl⟩
  | v :: r, o, w => setCells_calm g r (o + 1) (w.setCell ⟨g, o, none⟩ v)
def movF (G : Nat → Ob) (p r : Nat) : List Value := (List.range ((r - (p + 1)) * 2)).map fun j => fC G ((p + 1) * 2 + j)
def delF (G : Nat → Ob) (p : Nat) : Nat → Ob := fun i => if i < p then G i else G (i + 1)
theorem movF_len (G : Nat → Ob) (p r : Nat) : (movF G p r).length = (r - (p + 1)) * 2 := by simp [movF]
theorem movF_get (G : Nat → Ob) (p r j : Nat) (h : j < (r - (p + 1)) * 2) : (movF G p r)[j]? = some (fC G ((p + 1) * 2 + j)) := by simp [movF, h]
theorem movF_one (G : Nat → Ob) (p r : Nat) : ∀ u ∈ movF G p r, u.oneCell' = true := by
  intro u hu
  obtain ⟨i, _, rfl⟩ := List.mem_map.1 hu
  unfold fC
  split <;> rfl
theorem fC_del (G : Nat → Ob) (p i : Nat) : fC (delF G p) i = if i < p * 2 then fC G i else fC G (i + 2) := by
  unfold fC delF
  have e1 : (i + 2) % 2 = i % 2 := by omega
  have e2 : (i + 2) / 2 = i / 2 + 1 := by omega
  by_cases h : i < p * 2
  · rw [if_pos h, if_pos (show i / 2 < p by omega)]
  · rw [if_neg h, if_neg (show ¬ i / 2 < p by omega), e1, e2]
theorem OwnF.cur {w : World} {B n g cap : Nat} {F : Nat → Ob} (h : OwnF w B (.slice (some ⟨g, 0, none⟩) n cap) n F) : ∃ cur, w.heap[g]? = some (.cells cur 72 (0, 0)) ∧ B ≤ g ∧ n ≤ cap ∧ cap ≤ maxLen ∧ cur.size = cap * 2 ∧ ∀ i, i < n * 2 → cur[i]? = some (fC F i) := by
  rcases h.2 with ⟨h2, _⟩ | ⟨g', cap', cur, hv, hb, hh, hc1, hc2, hc3, hc4⟩
  · cases h2
  · cases hv
    refine ⟨cur, hh, hb, hc1, hc2, hc3, fun j hj => ?_⟩
    have := congrArg (fun l => l[j]?) hc4
    simp only [objF_get F n j hj] at this
    rw [← this, List.getElem?_take, if_pos hj]
    simp
theorem OwnF.del {w : World} {B r g cap : Nat} {G : Nat → Ob} (h : OwnF w B (.slice (some ⟨g, 0, none⟩) r cap) r G) (p : Nat) (hp : p < r) :
    OwnF (w.setCells g (p * 2) (movF G p r)) B (.slice (some ⟨g, 0, none⟩) (p + (r - (p + 1))) cap) (p + (r - (p + 1))) (delF G p) := by
  obtain ⟨cur, hh, hb, hc1, hc2, hc3, hc4⟩ := h.cur
  obtain ⟨cur', h1, h2, h3⟩ := setCells_row g 72 (0, 0) (movF G p r) (p * 2) w cur hh
  refine ⟨objF_len _ _, .inr ⟨g, cap, cur', rfl, hb, h1, by omega, hc2, by omega, ?_⟩⟩
  apply List.ext_getElem?
  intro i
  by_cases hi : i < (p + (r - (p + 1))) * 2
  · rw [objF_get _ _ _ hi, List.getElem?_take, if_pos hi, Array.getElem?_toList, h3 i (by omega), movF_len, fC_del]
    by_cases e : i < p * 2
    · rw [if_neg (by omega), if_pos e, hc4 i (by omega)]
    · rw [if_pos (by omega), if_neg e, movF_get _ _ _ _ (by omega), show (p + 1) * 2 + (i - p * 2) = i + 2 by omega]
  · rw [List.getElem?_take, if_neg hi, List.getElem?_eq_none (by rw [objF_len]; omega)]
theorem erase_perm : ∀ (l : List Ob) (p : Nat) (h : p < l.length), l.Perm (l[p] :: l.eraseIdx p)
  | [], _, h => by simp at h
  | x :: r, 0, _ => List.Perm.refl _
  | x :: r, p + 1, h => ((erase_perm r p (by simpa using h)).cons x).trans (List.Perm.swap _ _ _)
theorem del_perm (G : Nat → Ob) (r p : Nat) (hp : p < r) : ((List.range r).map G).Perm (G p :: (List.range (p + (r - (p + 1)))).map (delF G p)) := by
  have hl : p < ((List.range r).map G).length := by simpa using hp
  have h1 := erase_perm _ p hl
  have e1 : ((List.range r).map G)[p] = G p := by simp
  have e2 : ((List.range r).map G).eraseIdx p = (List.range (p + (r - (p + 1)))).map (delF G p) := by
    apply List.ext_getElem?
    intro i
    rw [List.getElem?_eraseIdx]
    by_cases hi : i < p
    · rw [if_pos hi]
      simp [delF, hi, show i < r by omega, show i < p + (r - (p + 1)) by omega]
    · rw [if_neg hi]
      by_cases h2 : i + 1 < r
      · simp [delF, hi, h2, show i < p + (r - (p + 1)) by omega]
      · simp [h2, show ¬ i < p + (r - (p + 1)) by omega]
  rw [e1, e2] at h1
  exact h1
end Go.Proofs.YtadinjaocnlglaaGreatDoor
