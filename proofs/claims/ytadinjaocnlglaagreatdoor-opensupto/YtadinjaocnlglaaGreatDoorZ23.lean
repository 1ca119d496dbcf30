/-
  The walk of Stock.add where a volume was read before.
  The walk of Stock.add where no volume was read before.
  What was read rightly depends on the bytes that were read, and on no others.
-/
import Derived.Test.YtadinjaocnlglaaGreatDoorZ22
namespace Go.Proofs.YtadinjaocnlglaaGreatDoor
open Go.RowKit
set_option maxRecDepth 100000
set_option maxHeartbeats 4000000
def LT.ns (l : LT) : Nat := nst (l.K * l.C) (lenE l.es)
def boR (rd : Nat → Bool) : Nat → Value := fun i => .bool (rd i)
def Head2 (B g : Nat) (T : TT) (w : World) : Prop := ∃ aE kE num first vB, w.heap[g]? = some (.cells (volC T.root T.lst T.L.K T.L.M T.L.C T.L.V (.slice aE T.L.es.length kE) T.lv num first vB) 319 (0, 0)) ∧ w.ownsRow B 70 2 (.slice aE T.L.es.length kE) T.L.es.length (enV T.L.es)
structure SS (B k g p q f : Nat) (T : TT) (un : Value) (rd : Nat → Bool) (bl : Nat → ByteArray) (w : World) : Prop where
 row : w.heap[k]? = some (.cells (stC (.pointer (some ⟨g, 0, none⟩)) un (.slice (some ⟨p, 0, none⟩) T.L.V T.L.V) (.slice (some ⟨q, 0, none⟩) T.L.cnt T.L.cnt) (.slice (some ⟨f, 0, none⟩) T.L.ns T.L.ns)) 224 (0, 0))
 hd : Head2 B g T w
 rdR : Rw w p T.L.V 4 (boR rd)
 blR : Rw w q T.L.cnt 9 (tX bl)
 fiR : Rw w f T.L.ns 232 piF
def ErrD (a b : Int) (e : Ending) (w : World) : Prop := ∃ z, e = .returned (.iface 305 (.pointer (some ⟨z, 0, none⟩))) ∧ w.heap[z]? = some (.cells #[.int .i64 a, .int .i64 b, .nilIface] 307 (0, 0))
theorem sadd1 (B k g p q f g2 qb c num first pl : Nat) (T T2 : TT) (un vE2 : Value) (rd : Nat → Bool) (bl S : Nat → ByteArray) (w : World) (h : SS B k g p q f T un rd bl w)
  (h2 : w.heap[g2]? = some (.cells (volC T2.root T2.lst T2.L.K T2.L.M T2.L.C T2.L.V vE2 T2.lv num first (.slice (some ⟨qb, 0, none⟩) c c)) 319 (0, 0))) (hS : Rw w qb c 9 (tX S))
  (hs1 : T.root = T2.root ∧ T.lst = T2.lst ∧ T.lv = T2.lv → num < T.L.V ∧ first + c ≤ T.L.cnt) :
  Calls Tryz.prog 158 #[.pointer (some ⟨k, 0, none⟩), .int .i64 pl, .pointer (some ⟨g2, 0, none⟩)] w fun e w' =>
   (¬ (T.root = T2.root ∧ T.lst = T2.lst ∧ T.lv = T2.lv) ∧ ErrD 12 pl e w' ∧ Below w.heap.size w w') ∨
   ((T.root = T2.root ∧ T.lst = T2.lst ∧ T.lv = T2.lv) ∧ rd num = true ∧ ErrD 13 pl e w' ∧ Below w.heap.size w w') ∨
   ((T.root = T2.root ∧ T.lst = T2.lst ∧ T.lv = T2.lv) ∧ rd num = false ∧ e = .returned .nilIface ∧ SS B k g p q f T un (updB rd num true) (laid bl first c S) w' ∧ Fr (fun j => j = p ∨ j = q) w w') := by
 have hkl : k < w.heap.size := (Array.getElem?_eq_some_iff.1 h.row).1
 have hg2l : g2 < w.heap.size := (Array.getElem?_eq_some_iff.1 h2).1
 obtain ⟨aE, kE, num0, first0, vB0, hgr, hgo⟩ := h.hd
 have hgl : g < w.heap.size := (Array.getElem?_eq_some_iff.1 hgr).1
 have a0 : w.cell? ⟨k, 0, none⟩ = some (.pointer (some ⟨g, 0, none⟩)) := cell_of_row _ _ _ _ 224 _ h.row
 have HSM : Hid (∀ X : World, Below w.heap.size w X → Calls Tryz.prog 207 #[.pointer (some ⟨g, 0, none⟩), .pointer (some ⟨g2, 0, none⟩)] X fun e w' => e = .returned (.bool (decide (T.root = T2.root ∧ T.lst = T2.lst ∧ T.lv = T2.lv))) ∧ Below X.heap.size X w') := fun X hX => by
  have e1 := (hX.block g hgl).trans hgr
  have e2 := (hX.block g2 hg2l).trans h2
  exact hsame g g2 T.root T.lst T.lv T2.root T2.lst T2.lv X (cell_of_row _ _ _ _ 319 _ e1) (cell_of_row _ _ _ _ 319 _ e1) (cell_of_row _ _ _ _ 319 _ e1) (cell_of_row _ _ _ _ 319 _ e2) (cell_of_row _ _ _ _ 319 _ e2) (cell_of_row _ _ _ _ 319 _ e2)
 have HK : Hid (∀ X : World, Below w.heap.size w X → X.cell? ⟨k, 0, none⟩ = some (.pointer (some ⟨g, 0, none⟩))) := fun X hX => (hX.cell (p := ⟨k, 0, none⟩) hkl).trans a0
 obtain ⟨sm, hsm⟩ : ∃ x, decide (T.root = T2.root ∧ T.lst = T2.lst ∧ T.lv = T2.lv) = x := ⟨_, rfl⟩
 rw [hsm] at HSM
 have H : Hid _ := h
 have H2 : Hid _ := h2
 have HS : Hid (Rw w qb c 9 (tX S)) := hS
 have HSA : Hid _ := hs1
 have HSMD : Hid _ := hsm
 clear h h2 hS hgr hgo hs1 hsm
 go_enter Tryz.func158, Tryz.ntmps158
 go_wp2_with fail
 go_region_held3 (fun w2 => w2.cell? ⟨k, 0, none⟩ = some (.pointer (some ⟨g, 0, none⟩))) (go_keep) ((go_at_call 207; refine Calls.mono (HSM.out _ (by first | exact Below.refl _ _ | exact (Below.refl _ _).drew)) ?_; rintro e w1 ⟨rfl, hb1⟩; have hB1 : Below w.heap.size w w1 := (by first | exact hb1 | exact ((Below.refl _ _).drew).trans hb1); have q0 := HK.out w1 hB1))
 have HB1 : Hid _ := hB1
 clear hb1 hB1 q0 a0
 cases hsv : sm with
 | false =>
  go_wp2_with fail
  refine Calls.mono (at_err 12 _ w1) ?_
  rintro e w2 ⟨z, rfl, hz, hB⟩
  have HZ : Hid _ := hz
  have HB2 : Hid _ := hB
  clear hz hB
  go_wp2_with fail
  go_ret
  exact .inl ⟨of_decide_eq_false (HSMD.out.trans hsv), ⟨z, rfl, HZ.out⟩, HB1.out.trans (HB2.out.mono HB1.out.size)⟩
 | true =>
  have hyes : T.root = T2.root ∧ T.lst = T2.lst ∧ T.lv = T2.lv := of_decide_eq_true (HSMD.out.trans hsv)
  have HYES : Hid (T.root = T2.root ∧ T.lst = T2.lst ∧ T.lv = T2.lv) := hyes
  clear hyes
  obtain ⟨hnV, hfit⟩ := HSA.out HYES.out
  have hk1 := (HB1.out.block k hkl).trans H.out.row
  have hg1 := (HB1.out.block g2 hg2l).trans H2.out
  have hp1 : Rw w1 p T.L.V 4 (boR rd) := Rw.below H.out.rdR HB1.out (Rw.lt H.out.rdR)
  have k2 : w1.cell? ⟨k, 2, none⟩ = some (.slice (some ⟨p, 0, none⟩) T.L.V T.L.V) := cell_of_row _ _ _ _ 224 _ hk1
  have n8 : w1.cell? ⟨g2, 8, none⟩ = some (.int .i64 num) := cell_of_row _ _ _ _ 319 _ hg1
  have p8 : w1.cell? ⟨p, num, none⟩ = some (.bool (rd num)) := hp1.cell num hnV
  have hkp : k ≠ p := fun e => by have e1 := hk1; rw [e] at e1; rw [show w1.heap[p]? = _ from hp1] at e1; simp at e1
  have hgp : g2 ≠ p := fun e => by have e1 := hg1; rw [e] at e1; rw [show w1.heap[p]? = _ from hp1] at e1; simp at e1
  have HK1 : Hid _ := hk1
  have HG1 : Hid _ := hg1
  have HP1 : Hid (Rw w1 p T.L.V 4 (boR rd)) := hp1
  obtain ⟨rv, hrv⟩ : ∃ x, rd num = x := ⟨_, rfl⟩
  rw [hrv] at p8
  have HRV : Hid _ := hrv
  clear hk1 hg1 hp1 hrv
  cases rv with
  | true =>
   go_wp2_with fail
   go_quiet (fail)
   go_wp2_with fail
   refine Calls.mono (at_err 13 _ _) ?_
   rintro e w2 ⟨z, rfl, hz, hB⟩
   have HZ : Hid _ := hz
   have HB2 : Hid (Below w.heap.size w w2) := (below_drewN HB1.out _).trans (hB.mono (below_drewN HB1.out _).size)
   clear hz hB
   go_wp2_with fail
   go_ret
   exact .inr (.inl ⟨HYES.out, HRV.out, ⟨z, rfl, HZ.out⟩, HB2.out⟩)
  | false =>
   go_wp2_with fail
   go_quiet (fail)
   obtain ⟨W2, hW2⟩ : ∃ X, w1.drewN nq = X := ⟨_, rfl⟩
   rw [hW2]
   have HBW : Hid (Below w.heap.size w W2) := by show Below _ _ _; rw [← hW2]; exact below_drewN HB1.out _
   replace k2 : W2.cell? ⟨k, 2, none⟩ = some (.slice (some ⟨p, 0, none⟩) T.L.V T.L.V) := by rw [← hW2]; exact k2
   replace n8 : W2.cell? ⟨g2, 8, none⟩ = some (.int .i64 num) := by rw [← hW2]; exact n8
   replace p8 : W2.cell? ⟨p, num, none⟩ = some (.bool false) := by rw [← hW2]; exact p8
   have z8 : W2.frozen? ⟨p, num, none⟩ = false := by rw [← hW2]; exact HP1.out.free num
   clear hW2
   go_wp2_with fail
   go_region
   clear k2 n8 p8 z8
   obtain ⟨X3, hX3⟩ : ∃ X, (W2.setCell ⟨p, num, none⟩ (.bool true)).drew = X := ⟨_, rfl⟩
   rw [hX3]
   have HF3 : Hid (Fr (fun j => j = p ∨ j = q) w X3) := by
    show Fr _ _ _
    rw [← hX3]
    exact (((Fr.below HBW.out).mono (fun j _ e => e)).set (S := fun j => j = p ∨ j = q) (g := p) (.inl (.inl rfl)) _ _).drew
   have HP3 : Hid (Rw X3 p T.L.V 4 (boR (updB rd num true))) := by
    show Rw _ _ _ _ _
    rw [← hX3]
    exact ((Rw.put (Rw.below H.out.rdR HBW.out (Rw.lt H.out.rdR)) num (.bool true)).to (fun j _ => by unfold updV boR updB; split <;> rfl)).drew
   have HO3 : Hid (∀ j, j < w.heap.size → j ≠ p → X3.heap[j]? = w.heap[j]?) := fun j hj hjp => by
    rw [← hX3]
    exact (set_other W2 p num j (.bool true) hjp).trans (HBW.out.block j hj)
   clear hX3
   have hk3 := (HO3.out k hkl hkp).trans H.out.row
   have hg3 := (HO3.out g2 hg2l hgp).trans H2.out
   have hqp : q ≠ p := fun e => by have e1 := H.out.blR; unfold Rw at e1; rw [e, show w.heap[p]? = _ from H.out.rdR] at e1; simp at e1
   have hqbp : qb ≠ p := fun e => by have e1 := HS.out; unfold Rw at e1; rw [e, show w.heap[p]? = _ from H.out.rdR] at e1; simp at e1
   have hq3 : Rw X3 q T.L.cnt 9 (tX bl) := (HO3.out q (Rw.lt H.out.blR) hqp).trans H.out.blR
   have hqb3 : Rw X3 qb c 9 (tX S) := (HO3.out qb (Rw.lt HS.out) hqbp).trans HS.out
   have k3 : X3.cell? ⟨k, 3, none⟩ = some (.slice (some ⟨q, 0, none⟩) T.L.cnt T.L.cnt) := cell_of_row _ _ _ _ 224 _ hk3
   have n9 : X3.cell? ⟨g2, 9, none⟩ = some (.int .i64 first) := cell_of_row _ _ _ _ 319 _ hg3
   have n10 : X3.cell? ⟨g2, 10, none⟩ = some (.slice (some ⟨qb, 0, none⟩) c c) := cell_of_row _ _ _ _ 319 _ hg3
   have HQ3 : Hid (Rw X3 q T.L.cnt 9 (tX bl)) := hq3
   have HQB3 : Hid (Rw X3 qb c 9 (tX S)) := hqb3
   clear hk3 hg3 hq3 hqb3
   obtain ⟨X4, hrun, hq4, hf4⟩ := copy_tail X3.drew q T.L.cnt first qb c c bl S 3 HQ3.out.drew HQB3.out.drew hfit
   have HRUN : Hid _ := hrun
   have HQ4 : Hid (Rw X4 q T.L.cnt 9 (tX (laid bl first c S))) := hq4
   have HF4 : Hid (Fr (fun j => j = q) X3 X4) := (Fr.refl _ X3).drew.trans' hf4
   clear hrun hq4 hf4
   have hT : ∀ j, j < w.heap.size → j ≠ p → j ≠ q → X4.heap[j]? = w.heap[j]? := fun j hj h1 h2 => (HF4.out.old j (Nat.lt_of_lt_of_le hj HF3.out.size) h2).trans (HO3.out j hj h1)
   have HEND : Hid (SS B k g p q f T un (updB rd num true) (laid bl first c S) X4 ∧ Fr (fun j => j = p ∨ j = q) w X4) := by
    obtain ⟨aE, kE, num0, first0, vB0, hgr, hgo⟩ := H.out.hd
    have t1 : ∀ {j : Nat} {cs : Array Value} {t : TypeId}, w.heap[j]? = some (.cells cs t (0, 0)) → t ≠ 4 → j ≠ p := fun {j cs t} hj ht e => by
     have e1 : w.heap[p]? = _ := H.out.rdR
     rw [e, e1] at hj
     simp only [Option.some.injEq, Obj.cells.injEq] at hj
     exact ht hj.2.1.symm
    have t2 : ∀ {j : Nat} {cs : Array Value} {t : TypeId}, w.heap[j]? = some (.cells cs t (0, 0)) → t ≠ 9 → j ≠ q := fun {j cs t} hj ht e => by
     have e1 : w.heap[q]? = _ := H.out.blR
     rw [e, e1] at hj
     simp only [Option.some.injEq, Obj.cells.injEq] at hj
     exact ht hj.2.1.symm
    have t3 : ∀ {j : Nat} {cs : Array Value} {t : TypeId}, w.heap[j]? = some (.cells cs t (0, 0)) → t ≠ 4 → t ≠ 9 → X4.heap[j]? = some (.cells cs t (0, 0)) := fun {j cs t} hj h4 h9 => (hT j (Array.getElem?_eq_some_iff.1 hj).1 (t1 hj h4) (t2 hj h9)).trans hj
    refine ⟨⟨t3 H.out.row (by decide) (by decide), ⟨aE, kE, num0, first0, vB0, t3 hgr (by decide) (by decide), own_kept hgo (fun z hz => ?_)⟩, ?_, HQ4.out, t3 H.out.fiR (by decide) (by decide)⟩, HF3.out.trans' (HF4.out.mono (fun j _ e => .inr e))⟩
    ·obtain ⟨cur, hc⟩ := own_type hgo z hz
     rw [t3 hc (by decide) (by decide), hc]
    ·exact (HF4.out.old p (Rw.lt HP3.out) hqp.symm).trans HP3.out
   clear hT
   have hsl := fun W => tail_run W q T.L.cnt first (by omega)
   go_wp2_with fail
   go_region_law (refine step_copy rfl (.tmp 57) (.tmp 61) 42 rfl (tailT q T.L.cnt first) (.slice (some ⟨qb, 0, none⟩) c c) (.int .i64 c) (by simp [Act.eval, Act.put]) (by simp [Act.eval, Act.put]) X4 HRUN.out ?_)
   all_goals go_wp2_with fail
   all_goals go_ret
   all_goals exact .inr (.inr ⟨HYES.out, HRV.out, rfl, HEND.out⟩)
def noR : Nat → Bool := fun _ => false
def noT : Nat → ByteArray := fun _ => ⟨#[]⟩
theorem sadd0 (B k g2 qb c num first pl : Nat) (T2 : TT) (un : Value) (aE2 : Option Addr) (kE2 : Nat) (S : Nat → ByteArray) (w0 : World) (h0 : w0.heap[k]? = some (.cells (stC (.pointer none) un (.slice none 0 0) (.slice none 0 0) (.slice none 0 0)) 224 (0, 0)))
  (h02 : w0.heap[g2]? = some (.cells (volC T2.root T2.lst T2.L.K T2.L.M T2.L.C T2.L.V (.slice aE2 T2.L.es.length kE2) T2.lv num first (.slice (some ⟨qb, 0, none⟩) c c)) 319 (0, 0))) (h0o : w0.ownsRow B 70 2 (.slice aE2 T2.L.es.length kE2) T2.L.es.length (enV T2.L.es)) (h0S : Rw w0 qb c 9 (tX S))
  (hT1 : Told1 T2) (hlen : T2.L.es.length ≤ 16 ∧ lenE T2.L.es ≤ 4096) (hs0 : num < T2.L.V ∧ first + c ≤ T2.L.cnt) :
  Calls Tryz.prog 158 #[.pointer (some ⟨k, 0, none⟩), .int .i64 pl, .pointer (some ⟨g2, 0, none⟩)] w0 fun e w' => e = .returned .nilIface ∧ ∃ p q f, w0.heap.size ≤ p ∧ w0.heap.size ≤ q ∧ w0.heap.size ≤ f ∧ SS B k g2 p q f T2 un (updB noR num true) (laid noT first c S) w' ∧ Fr (fun j => j = k) w0 w' := by
 have b0 : w0.cell? ⟨k, 0, none⟩ = some (.pointer none) := cell_of_row _ _ _ _ 224 _ h0
 have HBG : Hid _ := sbegin k g2 B T2.L.K T2.L.M T2.L.C T2.L.V num first aE2 kE2 T2.L.es T2.root T2.lst T2.lv (.slice (some ⟨qb, 0, none⟩) c c) un w0 h0 h02 h0o hlen.1 hlen.2 hT1.k1 hT1.km hT1.c1 hT1.c64 hT1.v16 T2.L.cnt T2.L.ns rfl hT1.cnt rfl
 have H0 : Hid (∀ X : World, Fr (fun j => j = k) w0 X → X.heap[g2]? = w0.heap[g2]? ∧ X.heap[qb]? = w0.heap[qb]? ∧ X.ownsRow B 70 2 (.slice aE2 T2.L.es.length kE2) T2.L.es.length (enV T2.L.es)) := fun X hX => ⟨hX.old g2 (Array.getElem?_eq_some_iff.1 h02).1 (fun e => by have h1 := h02; rw [e, h0] at h1; simp at h1), hX.old qb (Rw.lt h0S) (fun e => by have h1 : w0.heap[qb]? = _ := h0S; rw [e, h0] at h1; simp at h1), own_kept h0o (fun z hz => hX.old z (own_lt h0o z hz) (fun e => by
  obtain ⟨cur, hc⟩ := own_type h0o z hz
  have h1 := h0
  rw [← e, hc] at h1; simp at h1))⟩
 have H02 : Hid _ := h02
 have H0S : Hid (Rw w0 qb c 9 (tX S)) := h0S
 have HS0 : Hid _ := hs0
 clear h0 h02 h0o h0S hT1 hlen hs0
 go_enter Tryz.func158, Tryz.ntmps158
 go_wp2_with fail
 refine Calls.mono HBG.out ?_
 rintro e w ⟨rfl, p, q, f, hp0, hq0, hf0, hk0, hpR, hqR, hfR, hFr⟩
 obtain ⟨e2, eb, eo⟩ := H0.out w hFr
 have h2 := e2.trans H02.out
 have hS : Rw w qb c 9 (tX S) := eb.trans H0S.out
 have h : SS B k g2 p q f T2 un noR noT w := ⟨hk0, ⟨aE2, kE2, num, first, _, h2, eo⟩, hpR, hqR, hfR⟩
 have hs1 : num < T2.L.V ∧ first + c ≤ T2.L.cnt := HS0.out
 have HFR : Hid _ := hFr
 have HPQ : Hid (w0.heap.size ≤ p ∧ w0.heap.size ≤ q ∧ w0.heap.size ≤ f) := ⟨hp0, hq0, hf0⟩
 clear b0 HBG H0 H02 H0S HS0 e2 eb eo hk0 hpR hqR hfR hFr hp0 hq0 hf0
 have hkl : k < w.heap.size := (Array.getElem?_eq_some_iff.1 h.row).1
 have hg2l : g2 < w.heap.size := (Array.getElem?_eq_some_iff.1 h2).1
 obtain ⟨aE, kE, num0, first0, vB0, hgr, hgo⟩ := h.hd
 have hgl : g2 < w.heap.size := (Array.getElem?_eq_some_iff.1 hgr).1
 have a0 : w.cell? ⟨k, 0, none⟩ = some (.pointer (some ⟨g2, 0, none⟩)) := cell_of_row _ _ _ _ 224 _ h.row
 have HSM : Hid (∀ X : World, Below w.heap.size w X → Calls Tryz.prog 207 #[.pointer (some ⟨g2, 0, none⟩), .pointer (some ⟨g2, 0, none⟩)] X fun e w' => e = .returned (.bool true) ∧ Below X.heap.size X w') := fun X hX => by
  have e1 := (hX.block g2 hgl).trans hgr
  have e2 := (hX.block g2 hg2l).trans h2
  have hh := hsame g2 g2 T2.root T2.lst T2.lv T2.root T2.lst T2.lv X (cell_of_row _ _ _ _ 319 _ e1) (cell_of_row _ _ _ _ 319 _ e1) (cell_of_row _ _ _ _ 319 _ e1) (cell_of_row _ _ _ _ 319 _ e2) (cell_of_row _ _ _ _ 319 _ e2) (cell_of_row _ _ _ _ 319 _ e2)
  rw [decide_eq_true (show T2.root = T2.root ∧ T2.lst = T2.lst ∧ T2.lv = T2.lv from ⟨rfl, rfl, rfl⟩)] at hh
  exact hh
 have HK : Hid (∀ X : World, Below w.heap.size w X → X.cell? ⟨k, 0, none⟩ = some (.pointer (some ⟨g2, 0, none⟩))) := fun X hX => (hX.cell (p := ⟨k, 0, none⟩) hkl).trans a0
 have H : Hid _ := h
 have H2 : Hid _ := h2
 have HS : Hid (Rw w qb c 9 (tX S)) := hS
 have HSA : Hid _ := hs1
 clear h h2 hS hgr hgo hs1
 go_wp2_with fail
 go_region_held3 (fun w2 => w2.cell? ⟨k, 0, none⟩ = some (.pointer (some ⟨g2, 0, none⟩))) (go_keep) ((go_at_call 207; refine Calls.mono (HSM.out _ (by first | exact Below.refl _ _ | exact (Below.refl _ _).drew)) ?_; rintro e w1 ⟨rfl, hb1⟩; have hB1 : Below w.heap.size w w1 := (by first | exact hb1 | exact ((Below.refl _ _).drew).trans hb1); have q0 := HK.out w1 hB1))
 have HB1 : Hid _ := hB1
 clear hb1 hB1 q0 a0
 obtain ⟨hnV, hfit⟩ := HSA.out
 have hk1 := (HB1.out.block k hkl).trans H.out.row
 have hg1 := (HB1.out.block g2 hg2l).trans H2.out
 have hp1 : Rw w1 p T2.L.V 4 (boR noR) := Rw.below H.out.rdR HB1.out (Rw.lt H.out.rdR)
 have k2 : w1.cell? ⟨k, 2, none⟩ = some (.slice (some ⟨p, 0, none⟩) T2.L.V T2.L.V) := cell_of_row _ _ _ _ 224 _ hk1
 have n8 : w1.cell? ⟨g2, 8, none⟩ = some (.int .i64 num) := cell_of_row _ _ _ _ 319 _ hg1
 have p8 : w1.cell? ⟨p, num, none⟩ = some (.bool (noR num)) := hp1.cell num hnV
 have hkp : k ≠ p := fun e => by have e1 := hk1; rw [e] at e1; rw [show w1.heap[p]? = _ from hp1] at e1; simp at e1
 have hgp : g2 ≠ p := fun e => by have e1 := hg1; rw [e] at e1; rw [show w1.heap[p]? = _ from hp1] at e1; simp at e1
 have HK1 : Hid _ := hk1
 have HG1 : Hid _ := hg1
 have HP1 : Hid (Rw w1 p T2.L.V 4 (boR noR)) := hp1
 obtain ⟨rv, hrv⟩ : ∃ x, noR num = x := ⟨_, rfl⟩
 rw [hrv] at p8
 have HRV : Hid _ := hrv
 clear hk1 hg1 hp1 hrv
 cases rv with
 | true => exact absurd HRV.out (by simp [noR])
 | false =>
  go_wp2_with fail
  go_quiet (fail)
  obtain ⟨W2, hW2⟩ : ∃ X, w1.drewN nq = X := ⟨_, rfl⟩
  rw [hW2]
  have HBW : Hid (Below w.heap.size w W2) := by show Below _ _ _; rw [← hW2]; exact below_drewN HB1.out _
  replace k2 : W2.cell? ⟨k, 2, none⟩ = some (.slice (some ⟨p, 0, none⟩) T2.L.V T2.L.V) := by rw [← hW2]; exact k2
  replace n8 : W2.cell? ⟨g2, 8, none⟩ = some (.int .i64 num) := by rw [← hW2]; exact n8
  replace p8 : W2.cell? ⟨p, num, none⟩ = some (.bool false) := by rw [← hW2]; exact p8
  have z8 : W2.frozen? ⟨p, num, none⟩ = false := by rw [← hW2]; exact HP1.out.free num
  clear hW2
  go_wp2_with fail
  go_region
  clear k2 n8 p8 z8
  obtain ⟨X3, hX3⟩ : ∃ X, (W2.setCell ⟨p, num, none⟩ (.bool true)).drew = X := ⟨_, rfl⟩
  rw [hX3]
  have HF3 : Hid (Fr (fun j => j = p ∨ j = q) w X3) := by
   show Fr _ _ _
   rw [← hX3]
   exact (((Fr.below HBW.out).mono (fun j _ e => e)).set (S := fun j => j = p ∨ j = q) (g := p) (.inl (.inl rfl)) _ _).drew
  have HP3 : Hid (Rw X3 p T2.L.V 4 (boR (updB noR num true))) := by
   show Rw _ _ _ _ _
   rw [← hX3]
   exact ((Rw.put (Rw.below H.out.rdR HBW.out (Rw.lt H.out.rdR)) num (.bool true)).to (fun j _ => by unfold updV boR updB; split <;> rfl)).drew
  have HO3 : Hid (∀ j, j < w.heap.size → j ≠ p → X3.heap[j]? = w.heap[j]?) := fun j hj hjp => by
   rw [← hX3]
   exact (set_other W2 p num j (.bool true) hjp).trans (HBW.out.block j hj)
  clear hX3
  have hk3 := (HO3.out k hkl hkp).trans H.out.row
  have hg3 := (HO3.out g2 hg2l hgp).trans H2.out
  have hqp : q ≠ p := fun e => by have e1 := H.out.blR; unfold Rw at e1; rw [e, show w.heap[p]? = _ from H.out.rdR] at e1; simp at e1
  have hqbp : qb ≠ p := fun e => by have e1 := HS.out; unfold Rw at e1; rw [e, show w.heap[p]? = _ from H.out.rdR] at e1; simp at e1
  have hq3 : Rw X3 q T2.L.cnt 9 (tX noT) := (HO3.out q (Rw.lt H.out.blR) hqp).trans H.out.blR
  have hqb3 : Rw X3 qb c 9 (tX S) := (HO3.out qb (Rw.lt HS.out) hqbp).trans HS.out
  have k3 : X3.cell? ⟨k, 3, none⟩ = some (.slice (some ⟨q, 0, none⟩) T2.L.cnt T2.L.cnt) := cell_of_row _ _ _ _ 224 _ hk3
  have n9 : X3.cell? ⟨g2, 9, none⟩ = some (.int .i64 first) := cell_of_row _ _ _ _ 319 _ hg3
  have n10 : X3.cell? ⟨g2, 10, none⟩ = some (.slice (some ⟨qb, 0, none⟩) c c) := cell_of_row _ _ _ _ 319 _ hg3
  have HQ3 : Hid (Rw X3 q T2.L.cnt 9 (tX noT)) := hq3
  have HQB3 : Hid (Rw X3 qb c 9 (tX S)) := hqb3
  clear hk3 hg3 hq3 hqb3
  obtain ⟨X4, hrun, hq4, hf4⟩ := copy_tail X3.drew q T2.L.cnt first qb c c noT S 3 HQ3.out.drew HQB3.out.drew hfit
  have HRUN : Hid _ := hrun
  have HQ4 : Hid (Rw X4 q T2.L.cnt 9 (tX (laid noT first c S))) := hq4
  have HF4 : Hid (Fr (fun j => j = q) X3 X4) := (Fr.refl _ X3).drew.trans' hf4
  clear hrun hq4 hf4
  have hT : ∀ j, j < w.heap.size → j ≠ p → j ≠ q → X4.heap[j]? = w.heap[j]? := fun j hj h1 h2 => (HF4.out.old j (Nat.lt_of_lt_of_le hj HF3.out.size) h2).trans (HO3.out j hj h1)
  have HEND : Hid (SS B k g2 p q f T2 un (updB noR num true) (laid noT first c S) X4 ∧ Fr (fun j => j = p ∨ j = q) w X4) := by
   obtain ⟨aE, kE, num0, first0, vB0, hgr, hgo⟩ := H.out.hd
   have t1 : ∀ {j : Nat} {cs : Array Value} {t : TypeId}, w.heap[j]? = some (.cells cs t (0, 0)) → t ≠ 4 → j ≠ p := fun {j cs t} hj ht e => by
    have e1 : w.heap[p]? = _ := H.out.rdR
    rw [e, e1] at hj
    simp only [Option.some.injEq, Obj.cells.injEq] at hj
    exact ht hj.2.1.symm
   have t2 : ∀ {j : Nat} {cs : Array Value} {t : TypeId}, w.heap[j]? = some (.cells cs t (0, 0)) → t ≠ 9 → j ≠ q := fun {j cs t} hj ht e => by
    have e1 : w.heap[q]? = _ := H.out.blR
    rw [e, e1] at hj
    simp only [Option.some.injEq, Obj.cells.injEq] at hj
    exact ht hj.2.1.symm
   have t3 : ∀ {j : Nat} {cs : Array Value} {t : TypeId}, w.heap[j]? = some (.cells cs t (0, 0)) → t ≠ 4 → t ≠ 9 → X4.heap[j]? = some (.cells cs t (0, 0)) := fun {j cs t} hj h4 h9 => (hT j (Array.getElem?_eq_some_iff.1 hj).1 (t1 hj h4) (t2 hj h9)).trans hj
   refine ⟨⟨t3 H.out.row (by decide) (by decide), ⟨aE, kE, num0, first0, vB0, t3 hgr (by decide) (by decide), own_kept hgo (fun z hz => ?_)⟩, ?_, HQ4.out, t3 H.out.fiR (by decide) (by decide)⟩, HF3.out.trans' (HF4.out.mono (fun j _ e => .inr e))⟩
   ·obtain ⟨cur, hc⟩ := own_type hgo z hz
    rw [t3 hc (by decide) (by decide), hc]
   ·exact (HF4.out.old p (Rw.lt HP3.out) hqp.symm).trans HP3.out
  clear hT
  have hsl := fun W => tail_run W q T2.L.cnt first (by omega)
  go_wp2_with fail
  go_region_law (refine step_copy rfl (.tmp 57) (.tmp 61) 42 rfl (tailT q T2.L.cnt first) (.slice (some ⟨qb, 0, none⟩) c c) (.int .i64 c) (by simp [Act.eval, Act.put]) (by simp [Act.eval, Act.put]) X4 HRUN.out ?_)
  all_goals go_wp2_with fail
  all_goals go_ret
  all_goals exact ⟨rfl, p, q, f, HPQ.out.1, HPQ.out.2.1, HPQ.out.2.2, HEND.out.1, HFR.out.trans (fun j hj => .inr (by rcases hj with e | e <;> (rw [e]; first | exact HPQ.out.1 | exact HPQ.out.2.1))) HEND.out.2⟩
theorem vrF_gt (x : ByteArray) : ∀ (k i sum : Nat), (vrF x i sum k).2 ≠ 0 → i < (vrF x i sum k).2
 | 0, _, _, h => absurd rfl h
 | k + 1, i, sum, h => by
  unfold vrF at h ⊢
  split at h
  ·rename_i hi
   rw [dif_pos hi]
   split at h
   ·rename_i h1
    rw [if_pos h1]
    have := vrF_gt x k (i + 1) _ h
    omega
   ·rename_i h1
    rw [if_neg h1]
    split at h
    ·exact absurd rfl h
    ·rename_i h2
     rw [if_neg h2]
     exact Nat.lt_succ_self i
  ·exact absurd rfl h
theorem vrF_loc (x y : ByteArray) (m : Nat) (he : ∀ j, j < m → ∃ (hx : j < x.size) (hy : j < y.size), x[j] = y[j]) : ∀ (k i sum : Nat), (vrF x i sum k).2 ≠ 0 → (vrF x i sum k).2 ≤ m → vrF y i sum k = vrF x i sum k
 | 0, _, _, h, _ => absurd rfl h
 | k + 1, i, sum, h, hm => by
  have hgt := vrF_gt x (k + 1) i sum h
  obtain ⟨hx, hy, hxy⟩ := he i (by omega)
  unfold vrF at h hm ⊢
  rw [dif_pos hx] at h hm ⊢
  rw [dif_pos hy, ← hxy]
  by_cases h1 : 128 ≤ x[i].toNat
  ·rw [if_pos h1] at h hm ⊢
   rw [if_pos h1]
   exact vrF_loc x y m he k (i + 1) _ h hm
  ·rw [if_neg h1, if_neg h1]
structure Akin (d : Nat) (a b : RS) : Prop where
 wb : b.wrong = false
 eq : ∀ j, j < d → ∃ (ha : a.next + j < a.text.size) (hb : b.next + j < b.text.size), a.text[a.next + j] = b.text[b.next + j]
theorem bytes_val {s : RS} {n : Nat} (hw : s.wrong = false) (hn : n ≤ s.text.size - s.next) : s.bytes n = ({ s with field := s.next, next := s.next + n }, s.text.extract s.next (s.next + n)) := by
 unfold RS.bytes
 rw [hw]
 simp only [Bool.false_eq_true, if_false]
 rw [if_neg (by omega)]
theorem bytes_loc {d n : Nat} {a b : RS} (h : Akin d a b) (hw : (a.bytes n).1.wrong = false) (hd : (a.bytes n).1.next ≤ a.next + d) :
  (b.bytes n).2 = (a.bytes n).2 ∧ Akin (a.next + d - (a.bytes n).1.next) (a.bytes n).1 (b.bytes n).1 ∧ (b.bytes n).1.next + a.next = (a.bytes n).1.next + b.next := by
 have ha := bytes_ok hw
 have hna : n ≤ a.text.size - a.next := by
  unfold RS.bytes at hw
  rw [ha] at hw
  simp only [Bool.false_eq_true, if_false] at hw
  split at hw
  ·cases hw
  ·omega
 rw [bytes_val ha hna] at hd ⊢
 have hd' : n ≤ d := by have : a.next + n ≤ a.next + d := hd; omega
 have hnb : n ≤ b.text.size - b.next := by
  cases n with
  | zero => omega
  | succ m => obtain ⟨_, hb, _⟩ := h.eq m (by omega); omega
 rw [bytes_val h.wb hnb]
 refine ⟨?_, ⟨h.wb, fun j hj => ?_⟩, ?_⟩
 ·show b.text.extract b.next (b.next + n) = a.text.extract a.next (a.next + n)
  apply ByteArray.ext_getElem
  ·rw [ByteArray.size_extract, ByteArray.size_extract]; omega
  ·intro i h1 h2
   rw [ByteArray.getElem_extract, ByteArray.getElem_extract]
   rw [ByteArray.size_extract] at h1
   obtain ⟨_, _, e⟩ := h.eq i (by omega)
   exact e.symm
 ·have hj' : j < a.next + d - (a.next + n) := hj
  obtain ⟨h1, h2, e⟩ := h.eq (n + j) (by omega)
  refine ⟨by show a.next + n + j < a.text.size; omega, by show b.next + n + j < b.text.size; omega, ?_⟩
  show a.text[a.next + n + j]'_ = b.text[b.next + n + j]'_
  have e1 : a.next + n + j = a.next + (n + j) := by omega
  have e2 : b.next + n + j = b.next + (n + j) := by omega
  simp only [e1, e2]
  exact e
 ·show b.next + n + a.next = a.next + n + b.next
  omega
theorem num_val {s : RS} {lo : Nat} {hi : Int} (hw : (s.num lo hi).1.wrong = false) : s.num lo hi = ({ s with field := s.next, next := s.next + (vrd (s.text.extract s.next s.text.size)).2 }, (vrd (s.text.extract s.next s.text.size)).1) ∧ ¬ ((vrd (s.text.extract s.next s.text.size)).2 = 0 ∨ (vrd (s.text.extract s.next s.text.size)).1 < lo ∨ hi < ((vrd (s.text.extract s.next s.text.size)).1 : Int)) := by
 have h := (num_ok hw).1
 unfold RS.num at hw ⊢
 rw [h] at hw ⊢
 simp only [Bool.false_eq_true, if_false] at hw ⊢
 split at hw
 ·cases hw
 ·rename_i hn
  exact ⟨by rw [if_neg hn], hn⟩
theorem num_loc {d lo : Nat} {hi : Int} {a b : RS} (h : Akin d a b) (hw : (a.num lo hi).1.wrong = false) (hd : (a.num lo hi).1.next ≤ a.next + d) :
  (b.num lo hi).2 = (a.num lo hi).2 ∧ Akin (a.next + d - (a.num lo hi).1.next) (a.num lo hi).1 (b.num lo hi).1 ∧ (b.num lo hi).1.next + a.next = (a.num lo hi).1.next + b.next := by
 obtain ⟨e, hn⟩ := num_val hw
 rw [e] at hd ⊢
 have hd' : (vrd (a.text.extract a.next a.text.size)).2 ≤ d := by have : a.next + (vrd (a.text.extract a.next a.text.size)).2 ≤ a.next + d := hd; omega
 have hv : vrd (b.text.extract b.next b.text.size) = vrd (a.text.extract a.next a.text.size) := by
  refine vrF_loc _ _ d (fun j hj => ?_) 5 0 0 (fun e0 => hn (.inl e0)) hd'
  obtain ⟨h1, h2, e⟩ := h.eq j hj
  refine ⟨by rw [ByteArray.size_extract]; omega, by rw [ByteArray.size_extract]; omega, ?_⟩
  rw [ByteArray.getElem_extract, ByteArray.getElem_extract]
  exact e
 have eb : b.num lo hi = ({ b with field := b.next, next := b.next + (vrd (a.text.extract a.next a.text.size)).2 }, (vrd (a.text.extract a.next a.text.size)).1) := by
  unfold RS.num
  rw [h.wb]
  simp only [Bool.false_eq_true, if_false]
  rw [hv, if_neg hn]
 rw [eb]
 obtain ⟨z, hz⟩ : ∃ z, (vrd (a.text.extract a.next a.text.size)).2 = z := ⟨_, rfl⟩
 rw [hz] at hd' ⊢
 refine ⟨rfl, ⟨h.wb, fun j hj => ?_⟩, ?_⟩
 ·have hj' : j < a.next + d - (a.next + z) := hj
  obtain ⟨h1, h2, e⟩ := h.eq (z + j) (by omega)
  refine ⟨by show a.next + z + j < a.text.size; omega, by show b.next + z + j < b.text.size; omega, ?_⟩
  show a.text[a.next + z + j]'_ = b.text[b.next + z + j]'_
  have e1 : a.next + z + j = a.next + (z + j) := by omega
  have e2 : b.next + z + j = b.next + (z + j) := by omega
  simp only [e1, e2]
  exact e
 ·show b.next + z + a.next = a.next + z + b.next
  omega
theorem word_loc {d : Nat} {t : ByteArray} {a b : RS} (h : Akin d a b) (hw : (a.word t).wrong = false) (hd : (a.word t).next ≤ a.next + d) :
  Akin (a.next + d - (a.word t).next) (a.word t) (b.word t) ∧ (b.word t).next + a.next = (a.word t).next + b.next := by
 have e : (a.bytes t.size).2 = t := by
  unfold RS.word at hw
  split at hw
  ·assumption
  ·cases hw
 have ea : a.word t = (a.bytes t.size).1 := by unfold RS.word; rw [if_pos e]
 rw [ea] at hw hd ⊢
 obtain ⟨h1, h2, h3⟩ := bytes_loc h hw hd
 have eb : b.word t = (b.bytes t.size).1 := by unfold RS.word; rw [if_pos (h1.trans e)]
 rw [eb]
 exact ⟨h2, h3⟩
theorem entry_loc {d : Nat} {nm : ByteArray} {l : Int} {a b : RS} (h : Akin d a b) (hw : (a.entry nm l).1.wrong = false) (hd : (a.entry nm l).1.next ≤ a.next + d) :
  (b.entry nm l).2 = (a.entry nm l).2 ∧ Akin (a.next + d - (a.entry nm l).1.next) (a.entry nm l).1 (b.entry nm l).1 ∧ (b.entry nm l).1.next + a.next = (a.entry nm l).1.next + b.next := by
 have w3 : ((if leT ((a.num 1 255).1.bytes (a.num 1 255).2).2 nm then ((a.num 1 255).1.bytes (a.num 1 255).2).1.refuse else ((a.num 1 255).1.bytes (a.num 1 255).2).1).num 0 l).1.wrong = false := hw
 have w2 := (num_ok w3).1
 have hle : ¬ (leT ((a.num 1 255).1.bytes (a.num 1 255).2).2 nm = true) := fun e => by rw [if_pos e] at w2; cases w2
 rw [if_neg hle] at w2
 have w1 := bytes_ok w2
 have ea : a.entry nm l = ((((a.num 1 255).1.bytes (a.num 1 255).2).1.num 0 l).1, ((a.num 1 255).1.bytes (a.num 1 255).2).2, (((a.num 1 255).1.bytes (a.num 1 255).2).1.num 0 l).2) := by
  unfold RS.entry
  simp only []
  rw [if_neg hle]
 rw [ea] at hw hd ⊢
 have hw' : (((a.num 1 255).1.bytes (a.num 1 255).2).1.num 0 l).1.wrong = false := hw
 have hd' : (((a.num 1 255).1.bytes (a.num 1 255).2).1.num 0 l).1.next ≤ a.next + d := hd
 have v1 := (num_adv a 1 255).2
 have v2 := (bytes_adv (a.num 1 255).1 (a.num 1 255).2).2
 have v3 := (num_adv ((a.num 1 255).1.bytes (a.num 1 255).2).1 0 l).2
 obtain ⟨p1, p2, p3⟩ := num_loc h w1 (by omega)
 obtain ⟨q1, q2, q3⟩ := bytes_loc p2 w2 (by omega)
 obtain ⟨r1, r2, r3⟩ := num_loc q2 hw' (by omega)
 have eb : b.entry nm l = ((((b.num 1 255).1.bytes (a.num 1 255).2).1.num 0 l).1, ((a.num 1 255).1.bytes (a.num 1 255).2).2, (((b.num 1 255).1.bytes (a.num 1 255).2).1.num 0 l).2) := by
  unfold RS.entry
  simp only []
  rw [p1, q1, if_neg hle]
 rw [eb]
 refine ⟨by rw [r1], ?_, ?_⟩
 ·show Akin (a.next + d - (((a.num 1 255).1.bytes (a.num 1 255).2).1.num 0 l).1.next) _ _
  have e1 : a.next + d - (((a.num 1 255).1.bytes (a.num 1 255).2).1.num 0 l).1.next = ((a.num 1 255).1.bytes (a.num 1 255).2).1.next + ((a.num 1 255).1.next + (a.next + d - (a.num 1 255).1.next) - ((a.num 1 255).1.bytes (a.num 1 255).2).1.next) - (((a.num 1 255).1.bytes (a.num 1 255).2).1.num 0 l).1.next := by omega
  rw [e1]
  exact r2
 ·show (((b.num 1 255).1.bytes (a.num 1 255).2).1.num 0 l).1.next + a.next = (((a.num 1 255).1.bytes (a.num 1 255).2).1.num 0 l).1.next + b.next
  omega
theorem ents_loc : ∀ (k : Nat) {d : Nat} {nm : ByteArray} {l : Int} {acc : List (ByteArray × Nat)} {a b : RS}, Akin d a b → (RS.ents k a nm l acc).1.wrong = false → (RS.ents k a nm l acc).1.next ≤ a.next + d → (RS.ents k b nm l acc).2 = (RS.ents k a nm l acc).2 ∧ (RS.ents k b nm l acc).1.wrong = false ∧ (RS.ents k b nm l acc).1.next + a.next = (RS.ents k a nm l acc).1.next + b.next
 | 0, d, nm, l, acc, a, b, h, hw, hd => ⟨rfl, h.wb, by show b.next + a.next = a.next + b.next; omega⟩
 | k + 1, d, nm, l, acc, a, b, h, hw, hd => by
  rw [RS.ents] at hw hd ⊢
  have w1 := ents_ok _ _ _ _ _ hw
  have v1 := (ents_adv k (a.entry nm l).1 (a.entry nm l).2.1 (l - (a.entry nm l).2.2) (acc ++ [((a.entry nm l).2.1, (a.entry nm l).2.2)])).2
  have v0 := (entry_adv a nm l).2
  obtain ⟨p1, p2, p3⟩ := entry_loc h w1 (by omega)
  rw [RS.ents, p1]
  obtain ⟨q1, q2, q3⟩ := ents_loc k p2 hw (by omega)
  exact ⟨q1, q2, by omega⟩
end Go.Proofs.YtadinjaocnlglaaGreatDoor
