/-
  Vault.Repair where all is whole; vaultkeep's whole.
  vault.Open, and vaultkeep's opened.
-/
import Derived.Test.YtadinjaocnlglaaGreatDoorZ40
namespace Go.Proofs.YtadinjaocnlglaaGreatDoor
open Go.RowKit
set_option maxRecDepth 100000
set_option maxHeartbeats 4000000
theorem vrepair_ok (kt : Nat → Int) (B v k g p q f : Nat) (T : TT) (un : Value) (ul : List Nat) (rd : Nat → Bool) (bl : Nat → ByteArray) (dn : Nat → Bool) (zs : Nat → Nat) (bd : Nat → Value) (w : World) (hv : VL v k 0 w) (h : VS kt B k g p q f T un ul rd bl dn zs bd w) (hT : Told1 T) (hle : T.L.es.length ≤ 16 ∧ lenE T.L.es ≤ 4096) (hnm : ∀ x ∈ T.L.es, x.1.size ≤ 255) (hG : Gd kt w) (hB : B ≤ w.heap.size) (h2 : v ≠ 2) (ha : ∀ s, s < T.L.ns → stF kt T bl s = 0) :
    Calls Tryz.prog 28 #[.pointer (some ⟨v, 0, none⟩)] w fun e w' => ∃ gv, e = .returned (.tuple #[.slice (some ⟨gv, 0, none⟩) T.L.V T.L.V, .nilIface]) ∧ w.heap.size ≤ gv ∧ Rw w' gv T.L.V 9 (tX (reV kt T (blD kt T bl (dnS dn T.L.ns)))) ∧ Fr (fun j => j = q ∨ j = f ∨ j = v) w w' := by
  have hvl : v < w.heap.size := (Array.getElem?_eq_some_iff.1 hv).1
  have hF0 : Fr (fun j => j = v) w (w.setCell ⟨v, 0, none⟩ (.int .i32 1)) := (Fr.refl (fun j => j = v) w).set (.inl rfl) _ _
  refine Calls.mono (lk_repair v k w (fun val w' => ∃ gv, val = .tuple #[.slice (some ⟨gv, 0, none⟩) T.L.V T.L.V, .nilIface] ∧ w.heap.size ≤ gv ∧ Rw w' gv T.L.V 9 (tX (reV kt T (blD kt T bl (dnS dn T.L.ns)))) ∧ Fr (fun j => j = q ∨ j = f ∨ j = v) w w') hv ?_) ?_
  · refine Calls.mono (repair_ok kt B k g p q f T un ul rd bl dn zs bd _ (h.set hv (.inr rfl) _ _) hT hle hnm (hG.fr hF0 (fun e => h2 e.symm)) (Nat.le_trans hB hF0.size) ha) ?_
    rintro e w' ⟨zs', bd', gv, rfl, hgv, hR, hS, hF⟩
    have hv1 : VL v k 1 w' := by
      have h1 := VL.one hv
      have hS1 := h.set hv (.inr rfl) 0 (.int .i32 1)
      unfold VL at h1 ⊢
      rw [hF.old v (Array.getElem?_eq_some_iff.1 h1).1 (fun e => by
        rcases e with e | e
        · exact row_ne h1 hS1.blR (by decide) e
        · exact row_ne h1 hS1.fiR (by decide) e)]
      exact h1
    have hgv' : w.heap.size ≤ gv := Nat.le_trans hF0.size hgv
    refine ⟨_, _, rfl, hv1, gv, rfl, hgv', ?_, ?_⟩
    · show (w'.setCell ⟨v, 0, none⟩ (.int .i32 0)).heap[gv]? = _
      rw [set_other _ _ _ _ _ (by omega)]
      exact hR
    · exact ((hF0.mono (T := fun j => j = q ∨ j = f ∨ j = v) (fun j _ e => .inr (.inr e))).trans' (hF.mono (fun j _ e => by rcases e with e | e; exact .inl e; exact .inr (.inl e)))).set (.inl (.inr (.inr rfl))) _ _
  · rintro e w' ⟨a, b, rfl, gv, hval, h1, h2, h3⟩
    exact ⟨gv, by rw [hval], h1, h2, h3⟩
/-- nothing is told as wrong -/
def wholeB (kt : Nat → Int) (T : TT) (ul : List Nat) (rd : Nat → Bool) (bl : Nat → ByteArray) : Bool := decide (ul.length = 0 ∧ (abF rd T.L.V).length = 0 ∧ (baF kt T bl T.L.ns).length = 0 ∧ (fsF kt T bl 1 T.L.ns).length = 0 ∧ (fsF kt T bl 2 T.L.ns).length = 0)
theorem kwhole_any (kt : Nat → Int) (B v k g p q f : Nat) (T : TT) (un : Value) (ul : List Nat) (rd : Nat → Bool) (bl : Nat → ByteArray) (dn : Nat → Bool) (zs : Nat → Nat) (bd : Nat → Value) (w : World) (hv : VL v k 0 w) (h : VS kt B k g p q f T un ul rd bl dn zs bd w) (hT : Told1 T) (hle : T.L.es.length ≤ 16 ∧ lenE T.L.es ≤ 4096) (hul : ul.length ≤ 10000000000000) (hG : Gd kt w) (hB : B ≤ w.heap.size) (h2 : v ≠ 2) :
    Calls Tryz.prog 26 #[.pointer (some ⟨v, 0, none⟩)] w fun e w' => e = .returned (.bool (wholeB kt T ul rd bl)) ∧ VL v k 0 w' ∧ (∃ zs' bd', VS kt B k g p q f T un ul rd bl (dnS dn T.L.ns) zs' bd' w') ∧ Fr (fun j => j = q ∨ j = f ∨ j = v) w w' := by
  have HV : Hid _ := vverify kt B v k g p q f T un ul rd bl dn zs bd w hv h hT hle hul hG hB h2
  clear hv h hT hle hul hG
  go_enter Tryz.func26, Tryz.ntmps26
  go_wp2_with fail
  refine Calls.mono HV.out ?_
  rintro e w1 ⟨zs', bd', a, b, c, d, u, rfl, hv1, hS1, hF1, o1, o2, o3, o4, o5⟩
  obtain ⟨xa, ya, ha⟩ := own_shape o1
  obtain ⟨xb, yb, hb⟩ := own_shape o2
  obtain ⟨xc, yc, hc⟩ := own_shape o3
  obtain ⟨xd, yd, hd⟩ := own_shape o4
  obtain ⟨xu, yu, hu⟩ := own_shape o5
  have HR : Hid (wholeB kt T ul rd bl = decide (ul.length = 0 ∧ (abF rd T.L.V).length = 0 ∧ (baF kt T bl T.L.ns).length = 0 ∧ (fsF kt T bl 1 T.L.ns).length = 0 ∧ (fsF kt T bl 2 T.L.ns).length = 0)) := rfl
  generalize ul.length = n1 at *
  generalize (abF rd T.L.V).length = n2 at *
  generalize (baF kt T bl T.L.ns).length = n3 at *
  generalize (fsF kt T bl 1 T.L.ns).length = n4 at *
  generalize (fsF kt T bl 2 T.L.ns).length = n5 at *
  subst ha hb hc hd hu
  have HBA : Hid _ := (Below.refl w1.heap.size w1).alloc (Nat.le_refl _) (.cells (repC (.slice xa n1 ya) (.slice xb n2 yb) (.slice xc n3 yc) (.slice xd n4 yd) (.slice xu n5 yu)) 99)
  have HE : Hid (VL v k 0 (w1.alloc (.cells (repC (.slice xa n1 ya) (.slice xb n2 yb) (.slice xc n3 yc) (.slice xd n4 yd) (.slice xu n5 yu)) 99)) ∧ (∃ zs' bd', VS kt B k g p q f T un ul rd bl (dnS dn T.L.ns) zs' bd' (w1.alloc (.cells (repC (.slice xa n1 ya) (.slice xb n2 yb) (.slice xc n3 yc) (.slice xd n4 yd) (.slice xu n5 yu)) 99))) ∧ Fr (fun j => j = q ∨ j = f ∨ j = v) w (w1.alloc (.cells (repC (.slice xa n1 ya) (.slice xb n2 yb) (.slice xc n3 yc) (.slice xd n4 yd) (.slice xu n5 yu)) 99))) :=
    ⟨(HBA.out.block v (Array.getElem?_eq_some_iff.1 hv1).1).trans hv1, ⟨zs', bd', hS1.below HBA.out⟩, hF1.thenBelow HBA.out⟩
  unfold repC at HE ⊢
  clear hv1 hS1 hF1 o1 o2 o3 o4 o5
  by_cases e1 : n1 = 0
  · by_cases e2 : n2 = 0
    · by_cases e3 : n3 = 0
      · by_cases e4 : n4 = 0
        · by_cases e5 : n5 = 0
          · subst e1 e2 e3 e4 e5
            go_wp2_with fail
            go_ret
            exact ⟨by rw [HR.out]; rfl, HE.out⟩
          · have b5 : ((n5 : Int) == 0) = false := by simp; omega
            subst e1 e2 e3 e4
            go_wp2_with fail
            go_ret
            exact ⟨by rw [HR.out, decide_eq_false (by simp [e5])]; rfl, HE.out⟩
        · have b4 : ((n4 : Int) == 0) = false := by simp; omega
          subst e1 e2 e3
          go_wp2_with fail
          go_ret
          exact ⟨by rw [HR.out, decide_eq_false (by simp [e4])]; rfl, HE.out⟩
      · have b3 : ((n3 : Int) == 0) = false := by simp; omega
        subst e1 e2
        go_wp2_with fail
        go_ret
        exact ⟨by rw [HR.out, decide_eq_false (by simp [e3])]; rfl, HE.out⟩
    · have b2 : ((n2 : Int) == 0) = false := by simp; omega
      subst e1
      go_wp2_with fail
      go_ret
      exact ⟨by rw [HR.out, decide_eq_false (by simp [e2])]; rfl, HE.out⟩
  · have b1 : ((n1 : Int) == 0) = false := by simp; omega
    go_wp2_with fail
    go_ret
    exact ⟨by rw [HR.out, decide_eq_false (by simp [e1])]; rfl, HE.out⟩
end Go.Proofs.YtadinjaocnlglaaGreatDoor
namespace Go.Proofs.YtadinjaocnlglaaGreatDoor
open Go.RowKit
set_option maxRecDepth 100000
set_option maxHeartbeats 4000000
theorem SS.vs {kt : Nat → Int} {B k g p q f : Nat} {T : TT} {un : Value} {ul : List Nat} {rd : Nat → Bool} {bl : Nat → ByteArray} {w : World} (h : SS B k g p q f T un rd bl w) (hu : w.ownsRow B 3 1 un ul.length (unV ul)) : VS kt B k g p q f T un ul rd bl (fun _ => false) (fun _ => 0) (fun _ => .slice none 0 0) w where
  row := h.row
  hd := h.hd
  unO := hu
  rdR := h.rdR
  blR := by rw [blD_none]; exact h.blR
  fiR := h.fiR.to (fun j _ => by simp [piF, fiP])
  fn := fun s _ hd => by cases hd
/-- volumes that can be opened -/
def Opn (kt : Nat → Int) (rt : ByteArray) (L : Nat → ByteArray) (n : Nat) (s : OS) (t0 : ByteArray) : Prop := (rt.size = 0 ∨ rt.size = 32) ∧ OS.run kt rt 0 (texL L n) OS.new = .ok s ∧ s.hd = some t0
/-- a Vault that was opened -/
def VNew (kt : Nat → Int) (rt : ByteArray) (L : Nat → ByteArray) (n B v : Nat) (w : World) : Prop :=
  ∃ s t0 k g p q f un, Opn kt rt L n s t0 ∧ rdE kt t0 = none ∧ B ≤ v ∧ (B ≤ q ∧ B ≤ f) ∧ VL v k 0 w ∧ VS kt B k g p q f (RS.on t0).told un s.un s.rd s.bl (fun _ => false) (fun _ => 0) (fun _ => .slice none 0 0) w
/-- what vault.Open has answered -/
def VOp (kt : Nat → Int) (rt : ByteArray) (L : Nat → ByteArray) (n : Nat) (w : World) (e : Ending) (w' : World) : Prop := Below w.heap.size w w' ∧
  (((∃ z, e = .returned (.tuple #[.pointer none, .iface 305 (.pointer (some ⟨z, 0, none⟩))])) ∧ ∀ s t0, ¬ Opn kt rt L n s t0) ∨ ∃ v, e = .returned (.tuple #[.pointer (some ⟨v, 0, none⟩), .nilIface]) ∧ VNew kt rt L n w.heap.size v w')
theorem vopen (kt : Nat → Int) (rt : ByteArray) (L : Nat → ByteArray) (n : Nat) (v : Value) (w : World) (hG : Gd kt w) (hn : n ≤ 10000000000000) (hL : ∀ i, i < n → (L i).size ≤ 140737488351232) (hv : (n = 0 ∧ v = .slice none 0 0) ∨ ∃ b cap, v = .slice (some ⟨b, 0, none⟩) n cap ∧ b < w.heap.size ∧ Cl w b n (tI L)) :
    Calls Tryz.prog 60 #[v, .string rt] w fun e w' => VOp kt rt L n w e w' := by
  have HS : Hid (Calls Tryz.prog 104 #[v, .string rt] w fun e w' => Below w.heap.size w w' ∧ (((∃ z, e = .returned (.tuple #[.pointer none, .iface 305 (.pointer (some ⟨z, 0, none⟩))])) ∧ ∀ s t0, ¬ Opn kt rt L n s t0) ∨ ∃ k s t0 g p q f un, e = .returned (.tuple #[.pointer (some ⟨k, 0, none⟩), .nilIface]) ∧ Opn kt rt L n s t0 ∧ rdE kt t0 = none ∧ (w.heap.size ≤ q ∧ w.heap.size ≤ f) ∧ VS kt w.heap.size k g p q f (RS.on t0).told un s.un s.rd s.bl (fun _ => false) (fun _ => 0) (fun _ => .slice none 0 0) w')) := by
    by_cases hrt : rt.size = 0 ∨ rt.size = 32
    · rcases hv with ⟨rfl, rfl⟩ | ⟨b, cap, rfl, hb, hC⟩
      · refine Calls.mono (sopen_nil rt w hrt) ?_
        rintro e w' ⟨v, rfl, ⟨z, hz, _⟩, hB⟩
        cases hz
        refine ⟨hB, .inl ⟨⟨z, rfl⟩, fun s t0 ho => ?_⟩⟩
        obtain ⟨_, h1, h2⟩ := ho
        cases h1
        cases h2
      · refine Calls.mono (sopen kt rt L b n cap w hG hb hC hn hL hrt) ?_
        rintro e w' ⟨hO, hB⟩
        refine ⟨hB, ?_⟩
        unfold OpD at hO
        cases hr : OS.run kt rt 0 (texL L n) OS.new with
        | error ab =>
          obtain ⟨a, b'⟩ := ab
          rw [hr] at hO
          obtain ⟨v, rfl, z, hz, _⟩ := hO
          cases hz
          exact .inl ⟨⟨z, rfl⟩, fun s t0 ho => by have := ho.2.1; rw [hr] at this; cases this⟩
        | ok s =>
          rw [hr] at hO
          rcases hO with ⟨hd, v, rfl, h0, h1⟩ | ⟨hd, k, rfl, hI⟩
          · refine .inl ⟨?_, fun s' t0 ho => by have := ho.2.1; rw [hr] at this; cases this; have := ho.2.2; rw [hd] at this; cases this⟩
            rcases Nat.eq_zero_or_pos n with hn0 | hn0
            · obtain ⟨z, hz, _⟩ := h0 hn0
              cases hz
              exact ⟨z, rfl⟩
            · have hb := first_bad hr hn0 hd
              cases hs : sdE kt rt (L 0) with
              | none => exact absurd hs hb
              | some kp =>
                obtain ⟨z, y, x, hz, _⟩ := h1 hn0 kp.1 kp.2 hs
                cases hz
                exact ⟨_, rfl⟩
          · obtain ⟨un, hun, hc⟩ := hI
            rcases hc with ⟨e, _⟩ | ⟨t0, g, p, q, f, hd0, hr0, hpB, hqB, hfB, hS⟩
            · exact absurd e hd
            · exact .inr ⟨k, s, t0, g, p, q, f, un, rfl, ⟨hrt, hr, hd0⟩, hr0, ⟨hqB, hfB⟩, hS.vs hun⟩
    · refine Calls.mono (sopen_root rt v w (fun e => hrt (.inl e)) (fun e => hrt (.inr e))) ?_
      rintro e w' ⟨z, rfl, _, hB⟩
      exact ⟨hB, .inl ⟨⟨z, rfl⟩, fun s t0 ho => hrt ho.1⟩⟩
  clear hG hn hL hv
  go_enter Tryz.func60, Tryz.ntmps60
  go_wp2_with fail
  refine Calls.mono HS.out ?_
  rintro e w1 ⟨hB, ⟨⟨z, rfl⟩, hno⟩ | ⟨k, s, t0, g, p, q, f, un, rfl, hop, hr0, hq, hV⟩⟩
  · have HB : Hid _ := hB
    have HN : Hid _ := hno
    clear hB hno
    go_wp2_with fail
    go_ret2
    exact ⟨HB.out, .inl ⟨⟨z, rfl⟩, HN.out⟩⟩
  · have hbA : Below w1.heap.size w1 (w1.alloc (.cells (wC 0 k) 159)) := (Below.refl _ _).alloc (Nat.le_refl _) _
    have HE : Hid (VNew kt rt L n w.heap.size w1.heap.size (w1.alloc (.cells (wC 0 k) 159))) := ⟨s, t0, k, g, p, q, f, un, hop, hr0, hB.size, hq, heap_alloc_new _ _, hV.below hbA⟩
    have HB : Hid (Below w.heap.size w (w1.alloc (.cells (wC 0 k) 159))) := hB.trans (hbA.mono hB.size)
    clear hB hop hr0 hq hV hbA
    go_wp2_with fail
    go_ret2
    exact ⟨HB.out, .inr ⟨w1.heap.size, rfl, HE.out⟩⟩
/-- a list that was handed in -/
def RawT (w : World) (a : Option Addr) (n cap : Nat) (L : Nat → ByteArray) : Prop := (a = none ∧ n = 0 ∧ cap = 0) ∨ ∃ ad : Addr, a = some ad ∧ ∀ i, i < n → ∃ b off, ad = ⟨b, off, none⟩ ∧ b < w.heap.size ∧ w.cell? ⟨b, off + i, none⟩ = some (.string (L i))
theorem info9p : (Tryz.prog.info? 9).map (fun i => (i.zero, i.size, i.bytes)) = some (some (.string ⟨#[]⟩), 1, 16) := by kernel_rfl
/-- its copy -/
theorem own_copy (w : World) (a : Option Addr) (n cap : Nat) (L : Nat → ByteArray) (h : RawT w a n cap L) (hn : n * 16 ≤ 140737488351232) : ∃ v w', (Builtin.append_ #[42, 42] 42 #[.slice none 0 0, .slice a n cap]).run Tryz.prog w = .ok v w' ∧ ((n = 0 ∧ v = .slice none 0 0) ∨ (0 < n ∧ w'.ownsRow w.heap.size 9 1 v n (tV L n))) ∧ Below w.heap.size w w' := by
  obtain ⟨i0, hi0, z0, z1, z2⟩ := info_parts info9p
  have hnil : w.ownsRow w.heap.size 9 1 (.slice none 0 0) 0 [] := ⟨rfl, .inl ⟨rfl, rfl⟩⟩
  rcases h with ⟨rfl, rfl, rfl⟩ | ⟨ad, rfl, hc⟩
  · exact ⟨_, w, run_append_owned_none _ w.heap.size 42 42 9 i0 1 Tryz.underlying42 hi0 _ 0 [] hnil, .inl ⟨rfl, rfl⟩, Below.refl _ _⟩
  · obtain ⟨v', w', hr, ho, hg, hiff⟩ := run_append_own (P := Tryz.prog) w w.heap.size 42 42 9 i0 (.string ⟨#[]⟩) 1 16 Tryz.underlying42 hi0 z0 z1 z2 rfl (by decide) (.slice none 0 0) 0 [] hnil ad n cap (tV L n) (by rw [tV_len]; omega) (fun j u hj => by
      have hjn : j < n := by have := (List.getElem?_eq_some_iff.1 hj).1; rwa [tV_len] at this
      obtain ⟨b, off, rfl, _, h2⟩ := hc j hjn
      rw [Addr.add_lit, h2]
      simp [tV, hjn] at hj
      rw [hj]) (tV_one _ _) (by unfold maxLen; omega) (by omega) (Nat.le_refl _)
    rw [Nat.zero_add, List.nil_append] at ho
    have hB : Below w.heap.size w w' := (Below.refl _ _).grown hg (Nat.le_refl _) (fun y hy => by cases hy)
    rcases Nat.eq_zero_or_pos n with h0 | h0
    · exact ⟨v', w', hr, .inl ⟨h0, hiff.2 ⟨rfl, h0⟩⟩, hB⟩
    · exact ⟨v', w', hr, .inr ⟨h0, ho⟩, hB⟩
theorem own_row9 {w : World} {B n : Nat} {v : Value} {L : Nat → ByteArray} (h : w.ownsRow B 9 1 v n (tV L n)) (hn : 0 < n) : ∃ g cap, v = .slice (some ⟨g, 0, none⟩) n cap ∧ B ≤ g ∧ g < w.heap.size ∧ Cl w g n (tI L) := by
  rcases h.2 with ⟨_, h0⟩ | ⟨g, cap, cur, hv, hb, hh, _⟩
  · omega
  · refine ⟨g, cap, hv, hb, (Array.getElem?_eq_some_iff.1 hh).1, fun i hi => ?_⟩
    have := h.cells (g := g) (by rw [hv]; rfl) i (.string (L i)) (by simp [tV, hi])
    rw [Addr.add_lit, Nat.zero_add] at this
    exact this
/-- what opened has answered -/
def KOp (kt : Nat → Int) (rt : ByteArray) (L : Nat → ByteArray) (n : Nat) (w : World) (e : Ending) (w' : World) : Prop := Below w.heap.size w w' ∧
  ((e = .returned (.pointer none) ∧ ∀ s t0, ¬ Opn kt rt L n s t0) ∨ ∃ B v, e = .returned (.pointer (some ⟨v, 0, none⟩)) ∧ w.heap.size ≤ B ∧ B ≤ w'.heap.size ∧ VNew kt rt L n B v w')
theorem opened_any (kt : Nat → Int) (rt : ByteArray) (L : Nat → ByteArray) (a : Option Addr) (n cap : Nat) (w : World) (hG : Gd kt w) (hn : n * 16 ≤ 140737488351232) (hL : ∀ i, i < n → (L i).size ≤ 140737488351232) (hR : RawT w a n cap L) :
    Calls Tryz.prog 21 #[.slice a n cap, .string rt] w fun e w' => KOp kt rt L n w e w' := by
  obtain ⟨v', w1, hr, hcase, hB⟩ := own_copy w a n cap L hR hn
  have HV : Hid _ := vopen kt rt L n v' w1 (hG.below hB) (by omega) hL (by
    rcases hcase with h | ⟨h0, ho⟩
    · exact .inl h
    · obtain ⟨g, c, rfl, _, hg, hC⟩ := own_row9 ho h0
      exact .inr ⟨g, c, rfl, hg, hC⟩)
  have HRUN : Hid _ := hr
  have HB : Hid _ := hB
  clear hr hcase hB hL hR hG
  go_enter Tryz.func21, Tryz.ntmps21
  go_wp2_with (at_builtin; refine wpList_app rfl (.tmp 8) (.tmp 9) 42 rfl _ _ _ (by simp [Act.eval]) (by simp [Act.eval]) _ HRUN.out ?_)
  refine Calls.mono HV.out ?_
  rintro e w2 ⟨hB2, ⟨⟨z, rfl⟩, hno⟩ | ⟨v, rfl, hVN⟩⟩
  · have HB2 : Hid _ := HB.out.trans (hB2.mono HB.out.size)
    have HN : Hid _ := hno
    clear hB2 hno
    go_wp2_with fail
    go_ret
    exact ⟨HB2.out, .inl ⟨rfl, HN.out⟩⟩
  · have HB2 : Hid _ := HB.out.trans (hB2.mono HB.out.size)
    have HSZ : Hid _ := hB2.size
    have HN : Hid _ := hVN
    clear hB2 hVN
    go_wp2_with fail
    go_ret
    exact ⟨HB2.out, .inr ⟨w1.heap.size, v, rfl, HB.out.size, HSZ.out, HN.out⟩⟩
end Go.Proofs.YtadinjaocnlglaaGreatDoor
