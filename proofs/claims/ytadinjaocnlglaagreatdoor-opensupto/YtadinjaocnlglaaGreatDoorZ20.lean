/-
  The walk of layout.Read.
  The document's Cursor: word.
  The walk of vaultref's Top.
  The walks of vaultref's varint, Leaf and Rooted.
  Plain: a number's varint, written and read.
-/
import Derived.Test.YtadinjaocnlglaaGreatDoorZ19
import Derived.Test.YtadinjaocnlglaaGreatDoorZ13
import Derived.Test.YtadinjaocnlglaaGreatDoorZ06
import Derived.Test.YtadinjaocnlglaaGreatDoorZ16
import Derived.Test.YtadinjaocnlglaaGreatDoorZ04
namespace Go.Proofs.YtadinjaocnlglaaGreatDoor
open Go.RowKit
set_option maxRecDepth 100000
set_option maxHeartbeats 4000000
def VolAt (T : TT) (rest : ByteArray) (B g : Nat) (w : World) : Prop := ∃ aE kE q, w.heap[g]? = some (.cells (volC T.root T.lst T.L.K T.L.M T.L.C T.L.V (.slice aE T.L.es.length kE) T.lv T.num T.first (.slice (some ⟨q, 0, none⟩) (rest.size / T.L.C) (rest.size / T.L.C))) 319 (0, 0)) ∧ B ≤ g ∧ B ≤ q ∧ Rw w q (rest.size / T.L.C) 9 (tX (pc rest T.L.C)) ∧ w.ownsRow B 70 2 (.slice aE T.L.es.length kE) T.L.es.length (enV T.L.es)
def RdErr (k p : Nat) (e : Ending) (w : World) : Prop := ∃ q, e = .returned (.tuple #[.pointer none, .iface 305 (.pointer (some ⟨q, 0, none⟩))]) ∧ w.heap[q]? = some (.cells #[.int .i64 k, .int .i64 p, .nilIface] 307 (0, 0))
def RdDid (kt : Nat → Int) (t : ByteArray) (w : World) (e : Ending) (w' : World) : Prop := Below w.heap.size w w' ∧ (∀ k p, rdE kt t = some (k, p) → RdErr k p e w') ∧ (rdE kt t = none → ∃ g, e = .returned (.tuple #[.pointer (some ⟨g, 0, none⟩), .nilIface]) ∧ VolAt (RS.on t).told (tRest t) w.heap.size g w')
theorem RdDid.bad {kt : Nat → Int} {t : ByteArray} {w w' : World} {k p q : Nat} (h : rdE kt t = some (k, p)) (hb : Below w.heap.size w w') (hq : w'.heap[q]? = some (.cells #[.int .i64 k, .int .i64 p, .nilIface] 307 (0, 0))) : RdDid kt t w (.returned (.tuple #[.pointer none, .iface 305 (.pointer (some ⟨q, 0, none⟩))])) w' :=
 ⟨hb, fun k' p' h' => by rw [h] at h'; cases h'; exact ⟨q, rfl, hq⟩, fun h' => by rw [h] at h'; cases h'⟩
theorem RdDid.good {kt : Nat → Int} {t : ByteArray} {w w' : World} {g : Nat} (h : rdE kt t = none) (hb : Below w.heap.size w w') (hv : VolAt (RS.on t).told (tRest t) w.heap.size g w') : RdDid kt t w (.returned (.tuple #[.pointer (some ⟨g, 0, none⟩), .nilIface])) w' :=
 ⟨hb, fun k p h' => (by rw [h] at h'; cases h'), fun _ => ⟨g, rfl, hv⟩⟩
theorem texts_ne {a b : ByteArray} (h : a ≠ b) : (a.toList == b.toList) = false := by
 rw [beq_eq_false_iff_ne]
 intro e
 exact h (ByteArray.ext (by rw [ByteArray.toList_eq, ByteArray.toList_eq] at e; exact Array.toList_inj.1 e))
theorem texts_eq {a b : ByteArray} (h : a = b) : (a.toList == b.toList) = true := by subst h; simp
structure RdSt (w : World) (r g : Nat) (T : TT) (aE : Option Addr) (kE : Nat) (st : RS) (X : World) : Prop where
 vol : X.heap[g]? = some (.cells (volC T.root T.lst T.L.K T.L.M T.L.C T.L.V (.slice aE T.L.es.length kE) T.lv T.num 0 (.slice none 0 0)) 319 (0, 0))
 own : X.ownsRow w.heap.size 70 2 (.slice aE T.L.es.length kE) T.L.es.length (enV T.L.es)
 fr : Fr (fun j => j = r) w X
 ri : RI r st X
theorem RdSt.next {w : World} {r g : Nat} {T : TT} {aE : Option Addr} {kE : Nat} {st st' : RS} {X Y : World} (h : RdSt w r g T aE kE st X) (hd : RDid r st' X Y) : RdSt w r g T aE kE st' Y where
 vol := by rw [hd.2.old g (Array.getElem?_eq_some_iff.1 h.vol).1 (fun e => by have h1 := h.vol; rw [e, h.ri.row] at h1; simp at h1)]; exact h.vol
 own := own_kept h.own (fun q hq => hd.2.old q (own_lt h.own q hq) (fun e => by
  obtain ⟨cur, hc⟩ := own_type h.own q hq
  have h2 := h.ri.row
  rw [← e, hc] at h2; simp at h2))
 fr := h.fr.trans' hd.2
 ri := hd.1
theorem RdSt.low {w : World} {r g : Nat} {T : TT} {aE : Option Addr} {kE : Nat} {st : RS} {X Y : World} (h : RdSt w r g T aE kE st X) (hb : Below X.heap.size X Y) : RdSt w r g T aE kE st Y := h.next (RDid.same h.ri hb)
theorem lread (kt : Nat → Int) (t : ByteArray) (w : World) (hG : Gd kt w) (ht : t.size ≤ 140737488351232) : Calls Tryz.prog 205 #[.string t] w fun e w' => RdDid kt t w e w' := by
 have HG : Hid _ := hG
 clear hG
 by_cases hbig : 60000 < t.size
 ·have hE : rdE kt t = some (4, t.size) := by unfold rdE; rw [if_pos hbig]
  have HE : Hid _ := hE
  clear hE
  have hbi : (60000 : Int) < (t.size : Int) := by omega
  go_enter Tryz.func205, Tryz.ntmps205
  go_wp2_with fail
  refine Calls.mono (at_err 4 _ w) ?_
  rintro e w1 ⟨q, rfl, hq, hB⟩
  have HQ : Hid _ := hq
  have HB : Hid _ := hB
  clear hq hB
  go_wp2_with fail
  go_ret2
  exact RdDid.bad HE.out HB.out HQ.out
 ·have hbi : ¬ (60000 : Int) < (t.size : Int) := by omega
  obtain ⟨T, hT⟩ : ∃ T, (RS.on t).told = T := ⟨_, rfl⟩
  obtain ⟨ck, hck⟩ : ∃ x, (tCk t).2 = x := ⟨_, rfl⟩
  obtain ⟨s5, hs5⟩ : ∃ x, (tCk t).1 = x := ⟨_, rfl⟩
  obtain ⟨td, htd⟩ : ∃ x, tTold t = x := ⟨_, rfl⟩
  have hk : T.st.bytes 32 = (s5, ck) := by rw [← hT, ← hs5, ← hck]; rfl
  have htx : T.st.text = t := by rw [← hT]; exact (told_adv (RS.on t)).1
  have htd' : T.st.text.extract 0 T.st.next = td := by rw [htx, ← htd, ← hT]; rfl
  have htds : td.size ≤ 60000 := by rw [← htd', ByteArray.size_extract, htx]; omega
  have hlsz : T.lst.size ≤ 60000 := by have h1 := told_lst (RS.on t); rw [hT] at h1; have h2 : (RS.on t).text.size = t.size := rfl; omega
  have HE : Hid (rdE kt t = if s5.wrong then some (7, s5.field) else if ck = ofT kt (⟨#[3]⟩ ++ td) then (if T.root = rootT (ofT kt) T.lst T.L.cnt (pc T.lv 32) then (if T.size < (tRest t).size then some (7, s5.next + T.size) else none) else some (9, 4)) else some (8, T.st.next)) := by
   show _ = _
   unfold rdE
   rw [if_neg hbig, hs5, hck, htd, hT]
  have HL : Hid (s5.wrong = false → Told1 T) := fun h => by rw [← hT]; exact ck_ok (by rw [hs5]; exact h)
  have HLE : Hid (T.L.es.length ≤ 16 ∧ lenE T.L.es ≤ 4096) := by rw [← hT]; exact told_len _
  have HS5 : Hid ((tCk t).1 = s5) := hs5
  have HTX : Hid (s5.text = t) := by rw [← hs5]; exact ck_text t
  go_enter Tryz.func205, Tryz.ntmps205
  go_wp2_with fail
  refine Calls.mono (rnew t w (by omega)) ?_
  rintro e w1 ⟨r, rfl, hr, hI, hB⟩
  have HR0 : Hid (w.heap.size ≤ r) := hr
  have HI1 : Hid (RI r (RS.on t) w1) := hI
  have HB1 : Hid _ := hB
  clear hr hI hB
  go_wp2_with fail
  refine Calls.mono (rtold r (RS.on t) w1 HI1.out) ?_
  rintro e w2 ⟨g, vE, rfl, hg, hV, hO, hD⟩
  obtain ⟨aE, kE, rfl⟩ := own_shape hO
  rw [hT] at hV hO hD
  have HGG : Hid (w.heap.size ≤ g) := Nat.le_trans HB1.out.size hg
  have H2 : Hid (RdSt w r g T aE kE T.st w2) := ⟨hV, own_base hO HB1.out.size, (Fr.below HB1.out).trans' hD.2, hD.1⟩
  clear hg hV hO hD
  have HS : Hid _ := rsince r T.st 0 w2 H2.out.ri (Nat.zero_le _)
  rw [htd'] at HS
  go_wp2_with fail
  refine Calls.mono HS.out ?_
  rintro e w3 ⟨rfl, hB⟩
  have H3 : Hid _ := H2.out.low hB
  clear hB H2 HS
  have HPL : Hid _ := rplace r T.st w3 H3.out.ri
  go_wp2_with fail
  refine Calls.mono HPL.out ?_
  rintro e w3 ⟨rfl, rfl⟩
  have HBY : Hid _ := rbytes r T.st 32 w3 H3.out.ri (by omega)
  rw [hk] at HBY
  go_wp2_with fail
  refine Calls.mono HBY.out ?_
  rintro e w4 ⟨rfl, hD⟩
  have H4 : Hid _ := H3.out.next hD
  clear hD H3 HPL HBY
  have HW : Hid _ := rwrong r s5 w4 H4.out.ri
  go_wp2_with fail
  refine Calls.mono HW.out ?_
  rintro e w5 ⟨rfl, hB⟩
  have H5 : Hid _ := H4.out.low hB
  have HZ : Hid (∀ X, Fr (fun j => j = r) w X → Below w.heap.size w X) := fun X hX => Fr.toBelow (hX.mono (fun j hj e => by have h1 := HR0.out; have e' : j = r := e; omega))
  clear hB H4 HW hck hs5 htd hk htd'
  cases hwr : s5.wrong with
  | true =>
   go_wp2_with fail
   refine Calls.mono (at_err 7 _ w5) ?_
   rintro e w6 ⟨q, rfl, hq, hB⟩
   have HQ : Hid _ := hq
   have HB : Hid _ := hB
   clear hq hB
   go_wp2_with fail
   go_ret2
   exact RdDid.bad (by rw [HE.out, if_pos hwr]) ((HZ.out _ H5.out.fr).trans (HB.out.mono H5.out.fr.size)) HQ.out
  | false =>
   have HL1 : Hid _ := HL.out hwr
   have HE2 : Hid _ := HE.out
   rw [hwr, if_neg (by simp)] at HE2
   clear HE HL
   have hgd : Gd kt w5 := HG.out.below (HZ.out _ H5.out.fr)
   have HDG : Hid _ := of_any kt (⟨#[3]⟩ ++ td) w5 (by rw [ByteArray.size_append]; have : (⟨#[3]⟩ : ByteArray).size = 1 := rfl; omega) hgd.tab hgd.one
   obtain ⟨dg, hdg⟩ : ∃ x, ofT kt (⟨#[3]⟩ ++ td) = x := ⟨_, rfl⟩
   rw [hdg] at HDG HE2
   clear hgd hdg
   go_wp2_with fail
   refine Calls.mono HDG.out ?_
   rintro e w6 ⟨rfl, hB⟩
   have H6 : Hid _ := H5.out.low hB
   clear hB HDG H5
   by_cases hcd : ck = dg
   ·rw [if_pos hcd] at HE2
    have hcq := texts_eq hcd
    clear hcd
    have H6B : Hid (Below w.heap.size w w6) := HZ.out _ H6.out.fr
    have hvl : T.lv.size = T.L.cnt * 32 := HL1.out.lv
    have hcnt : T.L.cnt ≤ 512 := HL1.out.cnt
    have hgl6 : g < w6.heap.size := (Array.getElem?_eq_some_iff.1 H6.out.vol).1
    have HC1 : Hid (∀ X : World, Below w6.heap.size w6 X → Calls Tryz.prog 203 #[.string T.lv, .int .i64 32] X fun e w' => e = .returned (.slice (some ⟨X.heap.size, 0, none⟩) T.L.cnt T.L.cnt) ∧ Rw w' X.heap.size T.L.cnt 9 (tX (pc T.lv 32)) ∧ Below X.heap.size X w') := fun X _ => cut_any T.lv 32 T.L.cnt X (by omega) (by omega) (by omega) hvl
    obtain ⟨rt, hrt⟩ : ∃ x, rootT (ofT kt) T.lst T.L.cnt (pc T.lv 32) = x := ⟨_, rfl⟩
    rw [hrt] at HE2
    have HC2 : Hid (∀ (X : World) (b : Nat), Below w6.heap.size w6 X → Rw X b T.L.cnt 9 (tX (pc T.lv 32)) → Calls Tryz.prog 182 #[.string T.lst, .slice (some ⟨b, 0, none⟩) T.L.cnt T.L.cnt] X fun e w' => e = .returned (.string rt) ∧ Below X.heap.size X w') := fun X b hX hR => by
     rw [← hrt]
     exact rootOf_any kt T.lst (pc T.lv 32) b T.L.cnt T.L.cnt X (by omega) (by omega) (fun i hi => by rw [pc_size T.lv 32 T.L.cnt i hvl hi]; exact Nat.le_refl _) (HG.out.below (H6B.out.trans (hX.mono H6B.out.size))) (Array.getElem?_eq_some_iff.1 hR).1 (fun i hi => hR.cell i hi)
    have HV : Hid (∀ X : World, Below w6.heap.size w6 X → X.cell? ⟨g, 0, none⟩ = some (.string T.root) ∧ X.cell? ⟨g, 1, none⟩ = some (.string T.lst) ∧ X.cell? ⟨g, 7, none⟩ = some (.string T.lv)) := fun X hX => by
     have h1 : X.heap[g]? = some (.cells (volC T.root T.lst T.L.K T.L.M T.L.C T.L.V (.slice aE T.L.es.length kE) T.lv T.num 0 (.slice none 0 0)) 319 (0, 0)) := by rw [hX.block g hgl6]; exact H6.out.vol
     exact ⟨cell_of_row _ _ _ _ 319 _ h1, cell_of_row _ _ _ _ 319 _ h1, cell_of_row _ _ _ _ 319 _ h1⟩
    obtain ⟨v0, v1, v7⟩ := HV.out w6 (Below.refl _ _)
    clear hrt hvl
    go_wp2_with fail
    go_region_held3 (fun w2 => w2.cell? ⟨g, 0, none⟩ = some (.string T.root) ∧ w2.cell? ⟨g, 1, none⟩ = some (.string T.lst) ∧ w2.cell? ⟨g, 7, none⟩ = some (.string T.lv)) (go_keep) (first | (go_at_call 203; refine Calls.mono (HC1.out _ (by first | exact Below.refl _ _ | exact (Below.refl _ _).drew)) ?_; rintro e w7 ⟨rfl, hR7, hb7⟩; have hB7 : Below w6.heap.size w6 w7 := (by first | exact hb7 | exact ((Below.refl _ _).drew).trans hb7); obtain ⟨x0, x1, x7⟩ := HV.out w7 hB7) | (go_at_call 182; refine Calls.mono (HC2.out _ _ hB7 hR7) ?_; rintro e w8 ⟨rfl, hb8⟩; have hB8 : Below w6.heap.size w6 w8 := (hB7.trans (hb8.mono hB7.size)); obtain ⟨y0, y1, y7⟩ := HV.out w8 hB8))
    have H8 : Hid _ := H6.out.low hB8
    clear hR7 hb7 hB7 x0 x1 x7 hb8 hB8 y0 y1 y7 v0 v1 v7 H6
    by_cases hrr : T.root = rt
    ·rw [if_pos hrr] at HE2
     have hrq : (!(T.root.toList == rt.toList)) = false := by rw [texts_eq hrr]; rfl
     rw [hrq]
     clear hrq
     have HT1 := HL1.out
     have HRB : Hid _ := rblk r g w.heap.size T.L.K T.L.M T.L.C T.L.V T.num T.L.cnt T.first ((T.num + 1) * T.L.cnt / T.L.V) T.size ((tRest t).size / T.L.C) aE kE T.L.es T.root T.lst T.lv (tRest t) s5 w8 H8.out.ri hwr (by rw [HTX.out]; omega) H8.out.vol H8.out.own HLE.out.1 HLE.out.2 HT1.k1 HT1.km HT1.c1 HT1.c64 HT1.v1 HT1.v16 HT1.num rfl HT1.cnt rfl rfl rfl (by rw [HTX.out]; rw [← HS5.out]; rfl) rfl
     clear HT1
     go_wp2_with fail
     refine Calls.mono HRB.out ?_
     rintro e w9 (⟨hlt, q, rfl, hq, hF⟩ | ⟨hle, rfl, q, hq, hg9, hR9, hO9, hF⟩)
     ·rw [if_pos hlt] at HE2
      have HQ : Hid _ := hq
      have HF9 : Hid _ := H8.out.fr.trans' hF
      clear hq hF
      go_wp2_with fail
      go_ret2
      exact RdDid.bad HE2.out (HZ.out _ HF9.out) HQ.out
     ·rw [if_neg (by omega)] at HE2
      have HF9 : Hid (Below w.heap.size w w9) := Fr.toBelow ((H8.out.fr.trans (S1 := fun j => j = r ∨ j = g) (fun j hj => by
       rcases hj with e | e
       ·exact .inl e
       ·exact .inr (by have := HGG.out; omega)) hF).mono (fun j hj e => by have h1 := HR0.out; have e' : j = r := e; omega))
      have HV9 : Hid (VolAt T (tRest t) w.heap.size g w9) := ⟨aE, kE, q, hg9, HGG.out, Nat.le_trans H8.out.fr.size hq, hR9, hO9⟩
      clear hq hF hg9 hR9 hO9
      go_wp2_with fail
      go_ret2
      exact RdDid.good HE2.out HF9.out (by rw [hT]; exact HV9.out)
    ·rw [if_neg hrr] at HE2
     have hrq : (!(T.root.toList == rt.toList)) = true := by rw [texts_ne hrr]; rfl
     rw [hrq]
     clear hrq
     go_wp2_with fail
     refine Calls.mono (at_err 9 4 w8) ?_
     rintro e w9 ⟨q, rfl, hq, hB⟩
     have HQ : Hid _ := hq
     have HB : Hid _ := hB
     clear hq hB
     go_wp2_with fail
     go_ret2
     exact RdDid.bad HE2.out ((HZ.out _ H8.out.fr).trans (HB.out.mono H8.out.fr.size)) HQ.out
   ·rw [if_neg hcd] at HE2
    have hcq := texts_ne hcd
    go_wp2_with fail
    refine Calls.mono (at_err 8 _ w6) ?_
    rintro e w7 ⟨q, rfl, hq, hB⟩
    have HQ : Hid _ := hq
    have HB : Hid _ := hB
    clear hq hB
    go_wp2_with fail
    go_ret2
    exact RdDid.bad HE2.out ((HZ.out _ H6.out.fr).trans (HB.out.mono H6.out.fr.size)) HQ.out
theorem cword (c : Nat) (s : RS) (t : ByteArray) (w : World) (h : CR c s w) (ht : t.size ≤ 1000000000) :
  Calls Tryz.prog 129 #[.pointer (some ⟨c, 0, none⟩), .string t] w fun e w' => e = .returned (.tuple #[]) ∧ CDid c (s.word t) w w' := by
 have c0 : w.cell? ⟨c, 0, none⟩ = some (.string s.text) := cell_of_row _ _ _ _ 239 _ h.row
 have c1 : w.cell? ⟨c, 1, none⟩ = some (.int .i64 (atC s : Nat)) := cell_of_row _ _ _ _ 239 _ h.row
 have c2 : w.cell? ⟨c, 2, none⟩ = some (.bool s.wrong) := cell_of_row _ _ _ _ 239 _ h.row
 have HH : Hid (CR c s w) := h
 have hnt := h.nt
 have hsm := h.small
 clear h
 obtain ⟨text, field, next, wrong⟩ := s
 cases wrong
 ·have e1 : atC ⟨text, field, next, false⟩ = next := rfl
  rw [e1] at c1
  have hnt' : next ≤ text.size := hnt
  have hsm' : text.size ≤ 1000000000 := hsm
  have u1 : IntKind.i64.wrap ((text.size : Int) - (next : Int)) = (text.size : Int) - (next : Int) := by rw [IntKind.wrap_i64]; omega
  clear hnt hsm
  have HRW : Hid (∀ j, (w.drewN j).heap[c]? = some (.cells (cuC ⟨text, field, next, false⟩) 239 (0, 0))) := fun j => HH.out.row
  have HFW : Hid (∀ j, Fr (fun j => j = c) w (w.drewN j)) := fun j => Fr.below (below_drewN (Below.refl _ _) _)
  by_cases hlt : text.size - next < t.size
  ·have hlt' : (text.size : Int) - (next : Int) < (t.size : Int) := by omega
   have HE : Hid (RS.word ⟨text, field, next, false⟩ t = ⟨text, next, next, true⟩) := by
    show _ = _
    have hb : RS.bytes ⟨text, field, next, false⟩ t.size = (⟨text, next, next, true⟩, ⟨#[]⟩) := by
     unfold RS.bytes
     simp [hlt]
    unfold RS.word
    rw [hb]
    split
    ·rfl
    ·rfl
   go_enter Tryz.func129, Tryz.ntmps129
   go_wp2_with fail
   go_quiet (fail)
   obtain ⟨W, hW⟩ : ∃ W, w.drewN nq = W := ⟨_, rfl⟩
   have HR : Hid (W.heap[c]? = some (.cells (cuC ⟨text, field, next, false⟩) 239 (0, 0))) := by show _ = _; rw [← hW]; exact HRW.out nq
   have HF : Hid (Fr (fun j => j = c) w W) := by show Fr _ _ _; rw [← hW]; exact HFW.out nq
   rw [hW]
   clear hW c0 c1 c2
   have g2 : W.cell? ⟨c, 2, none⟩ = some (.bool false) := cell_of_row _ _ _ _ 239 _ HR.out
   have k2 := frozen_of_row W c 2 _ 239 HR.out
   go_wp2_with fail
   go_end0
   rw [HE.out]
   exact ⟨rfl, ⟨set_heap _ _ 2 _ _ _ _ HR.out, hnt', hsm'⟩, HF.out.set (.inl rfl) _ _⟩
  ·have hlt' : ¬ (text.size : Int) - (next : Int) < (t.size : Int) := by omega
   have hb : RS.bytes ⟨text, field, next, false⟩ t.size = (⟨text, next, next + t.size, false⟩, text.extract next (next + t.size)) := by
    unfold RS.bytes
    simp [hlt]
   obtain ⟨m, hm⟩ : ∃ m, next + t.size = m := ⟨_, rfl⟩
   rw [hm] at hb
   have u2 : IntKind.i64.wrap (m : Int) = (m : Int) := by rw [IntKind.wrap_i64]; omega
   have em : (next : Int) + (t.size : Int) = (m : Int) := by omega
   have k1 : (0 : Int) ≤ (next : Int) := by omega
   have k2 : (next : Int) ≤ (m : Int) := by omega
   have k3 : (m : Int) ≤ (text.size : Int) := by omega
   have HM : Hid (m ≤ text.size) := by show m ≤ _; omega
   clear hm
   by_cases he : text.extract next m = t
   ·have q1 : ((text.extract next m).toList == t.toList) = true := texts_eq he
    have HE : Hid (RS.word ⟨text, field, next, false⟩ t = ⟨text, next, m, false⟩) := by
     show _ = _
     unfold RS.word
     rw [hb, if_pos he]
    clear hb he
    go_enter Tryz.func129, Tryz.ntmps129
    go_wp2_with fail
    go_quiet (fail)
    obtain ⟨W, hW⟩ : ∃ W, w.drewN nq = W := ⟨_, rfl⟩
    have HR : Hid (W.heap[c]? = some (.cells (cuC ⟨text, field, next, false⟩) 239 (0, 0))) := by show _ = _; rw [← hW]; exact HRW.out nq
    have HF : Hid (Fr (fun j => j = c) w W) := by show Fr _ _ _; rw [← hW]; exact HFW.out nq
    rw [hW]
    try rw [q1]
    clear hW c0 c1 c2
    have g1 : W.cell? ⟨c, 1, none⟩ = some (.int .i64 next) := cell_of_row _ _ _ _ 239 _ HR.out
    have g2 : W.cell? ⟨c, 2, none⟩ = some (.bool false) := cell_of_row _ _ _ _ 239 _ HR.out
    have l1 := frozen_of_row W c 1 _ 239 HR.out
    go_wp2_with fail
    go_end0
    rw [HE.out]
    exact ⟨rfl, ⟨set_heap _ _ 1 _ _ _ _ HR.out, HM.out, hsm'⟩, HF.out.set (.inl rfl) _ _⟩
   ·have q1 : ((text.extract next m).toList == t.toList) = false := texts_ne he
    have HE : Hid (RS.word ⟨text, field, next, false⟩ t = ⟨text, next, m, true⟩) := by
     show _ = _
     unfold RS.word
     rw [hb, if_neg he]
     rfl
    clear hb he
    go_enter Tryz.func129, Tryz.ntmps129
    go_wp2_with fail
    go_quiet (fail)
    obtain ⟨W, hW⟩ : ∃ W, w.drewN nq = W := ⟨_, rfl⟩
    have HR : Hid (W.heap[c]? = some (.cells (cuC ⟨text, field, next, false⟩) 239 (0, 0))) := by show _ = _; rw [← hW]; exact HRW.out nq
    have HF : Hid (Fr (fun j => j = c) w W) := by show Fr _ _ _; rw [← hW]; exact HFW.out nq
    rw [hW]
    try rw [q1]
    clear hW c0 c1 c2
    have g2 : W.cell? ⟨c, 2, none⟩ = some (.bool false) := cell_of_row _ _ _ _ 239 _ HR.out
    have l2 := frozen_of_row W c 2 _ 239 HR.out
    go_wp2_with fail
    go_end0
    rw [HE.out]
    exact ⟨rfl, ⟨set_heap _ _ 2 _ _ _ _ HR.out, HM.out, hsm'⟩, HF.out.set (.inl rfl) _ _⟩
 ·have HE : Hid (RS.word ⟨text, field, next, true⟩ t = ⟨text, field, next, true⟩) := by
   show _ = _
   unfold RS.word
   split
   ·rfl
   ·rfl
  go_enter Tryz.func129, Tryz.ntmps129
  go_wp2_with fail
  go_quiet (fail)
  go_wp2_with fail
  go_end0
  rw [HE.out]
  exact ⟨rfl, ⟨HH.out.row, HH.out.nt, HH.out.small⟩, Fr.below (below_drewN (Below.refl _ _) _)⟩
theorem half_any (n : Nat) (w : World) (h2 : 2 ≤ n) (h : n < 9223372036854775808) :
  Calls Tryz.prog 138 #[.int .i64 n] w fun e w' => e = .returned (.int .i64 (hf n : Nat)) ∧ w' = w := by
 have HU : Hid (∀ e : Nat, 2 ^ e < n → n ≤ 2 * 2 ^ e → 2 ^ e = hf n) := fun e h h' => hf_one e n h h'
 go_enter Tryz.func138, Tryz.ntmps138
 go_wp2
 go_loop [3] (fun pv => ∃ p e : Nat, p = 2 ^ e ∧ pv = .int .i64 p ∧ p < n) (fun pv => n - (intOf pv).toNat)
 case atStart => exact ⟨1, 0, rfl, rfl, by omega⟩
 case round =>
  obtain ⟨p, e, hpe, rfl, hpn⟩ := hrel
  have hp0 : 0 < p := by rw [hpe]; exact Nat.two_pow_pos _
  have HPE : Hid _ := hpe
  clear hpe
  by_cases hlt : (p : Int) < (n : Int) - (p : Int)
  ·go_wp2
   go_round
   case rel => exact ⟨2 * p, e + 1, by rw [HPE.out, Nat.pow_succ]; omega, by go_num, by omega⟩
   case measure => simp [intOf]; omega
  ·have hpm : p = hf n := by
    have := HU.out e (by rw [← HPE.out]; exact hpn) (by rw [← HPE.out]; omega)
    rw [HPE.out]; exact this
   go_wp2
   go_ret
   exact ⟨rfl, rfl⟩
theorem joint_any (a b : ByteArray) (w : World) (ha : a.size ≤ 35184372088832) (hb : b.size ≤ 35184372088832) :
  Calls Tryz.prog 139 #[.string a, .string b] w fun e w' => e = .returned (.string (⟨#[1]⟩ ++ a ++ b)) ∧ w' = w := by
 go_enter Tryz.func139, Tryz.ntmps139
 go_wp2
 go_ret
 exact ⟨rfl, rfl⟩
theorem len3 (a b : ByteArray) (ha : a.size ≤ 35184372088832) (hb : b.size ≤ 35184372088832) : ((⟨#[1]⟩ : ByteArray) ++ a ++ b).size ≤ 140737488351232 := by
 simp only [ByteArray.size_append]
 have : (⟨#[1]⟩ : ByteArray).size = 1 := rfl
 omega
theorem rtop_any (kt : Nat → Int) : ∀ (n : Nat) (L : Nat → ByteArray) (b o cap : Nat) (w : World), n ≤ cap → cap < 9223372036854775808 → Gr kt w → b < w.heap.size → (∀ i, i < n → (L i).size ≤ 35184372088832) → Co w b o n (tI L) →
  Calls Tryz.prog 137 #[.slice (some ⟨b, o, none⟩) n cap] w fun e w' => e = .returned (.string (topT (ofT kt) n L)) ∧ Below w.heap.size w w' := by
 intro n
 induction n using Nat.strongRecOn with
 | ind n ih =>
 intro L b o cap w hn hc hG hb hL hC
 by_cases h0 : n = 0
 ·subst h0
  have H : Hid _ := rdigest_any kt ⟨#[]⟩ w (by decide) hG
  rw [topT_0]
  clear ih hC hL hG
  go_enter Tryz.func137, Tryz.ntmps137
  go_wp2_with fail
  refine Calls.mono H.out ?_
  rintro e w1 ⟨rfl, hB⟩
  go_wp2
  go_ret
  exact ⟨rfl, hB⟩
 ·by_cases h1 : n = 1
  ·subst h1
   rw [topT_1]
   have c0 : w.cell? ⟨b, o, none⟩ = some (.string (L 0)) := hC 0 (by omega)
   clear ih hC hL hG
   go_enter Tryz.func137, Tryz.ntmps137
   go_wp2
   go_ret
   exact ⟨rfl, Below.refl _ _⟩
  ·have h2 : 2 ≤ n := by omega
   rw [topT_n _ n L h2]
   have e1 := hf_lt n h2
   have e2 := hf_pos n
   have HH : Hid _ := fun W => half_any n W h2 (by omega)
   have H1 : Hid _ := fun W => ih (hf n) e1 L b o cap W (by omega) hc
   have H2 : Hid _ := fun W => ih (n - hf n) (by omega) (fun j => L (hf n + j)) b (o + hf n) (cap - hf n) W (by omega) (by omega)
   have hT1 := topT_le (ofT kt) 35184372088832 (ofT_le kt) (hf n) L (fun i hi => hL i (by omega))
   have hT2 := topT_le (ofT kt) 35184372088832 (ofT_le kt) (n - hf n) (fun j => L (hf n + j)) (fun i hi => hL _ (by omega))
   have HL : Hid _ := hL
   have HC : Hid (Co w b o n (tI L)) := hC
   have HG : Hid _ := hG
   have hd0 : ((n : Int) == 0) = false := by simp; omega
   have hd1 : ((n : Int) == 1) = false := by simp; omega
   obtain ⟨A, hA⟩ : ∃ A, topT (ofT kt) (hf n) L = A := ⟨_, rfl⟩
   obtain ⟨B, hBB⟩ : ∃ B, topT (ofT kt) (n - hf n) (fun j => L (hf n + j)) = B := ⟨_, rfl⟩
   rw [hA] at hT1 H1 ⊢
   rw [hBB] at hT2 H2 ⊢
   obtain ⟨m, hm2⟩ : ∃ m, hf n = m := ⟨_, rfl⟩
   rw [hm2] at e1 e2 HH H1 H2
   clear ih hC hL hG hA hBB hm2
   go_enter Tryz.func137, Tryz.ntmps137
   go_wp2_with fail
   refine Calls.mono (HH.out _) ?_
   rintro e w1 ⟨rfl, rfl⟩
   go_wp2_with fail
   refine Calls.mono (H1.out _ HG.out hb (fun i hi => HL.out i (by omega)) (Co.lo HC.out (by omega))) ?_
   rintro e w2 ⟨rfl, hB2⟩
   have HB2 : Hid (Below w1.heap.size w1 w2) := hB2
   have hb2 : b < w2.heap.size := Nat.lt_of_lt_of_le hb hB2.size
   clear hB2
   go_wp2_with fail
   refine Calls.mono (H2.out _ (HG.out.below HB2.out) hb2 (fun i hi => HL.out _ (by omega)) ((Co.hi HC.out (by omega)).below HB2.out hb)) ?_
   rintro e w3 ⟨rfl, hB3⟩
   have HB3 : Hid (Below w1.heap.size w1 w3) := HB2.out.trans (hB3.mono HB2.out.size)
   clear hB3
   go_wp2_with fail
   refine (joint_any A B _ hT1 hT2).mono ?_
   rintro e w3' ⟨rfl, rfl⟩
   go_wp2_with fail
   refine (rdigest_any kt _ w3' (len3 A B hT1 hT2) (HG.out.below HB3.out)).mono ?_
   rintro e w4 ⟨rfl, hB4⟩
   have hB14 : Below w1.heap.size w1 w4 := HB3.out.trans (hB4.mono HB3.out.size)
   clear hB4
   go_wp2
   go_ret
   exact ⟨rfl, hB14⟩
theorem rtop_nil (kt : Nat → Int) (L : Nat → ByteArray) (w : World) (hG : Gr kt w) :
  Calls Tryz.prog 137 #[.slice none 0 0] w fun e w' => e = .returned (.string (topT (ofT kt) 0 L)) ∧ Below w.heap.size w w' := by
 have H : Hid _ := rdigest_any kt ⟨#[]⟩ w (by decide) hG
 rw [topT_0]
 clear hG
 go_enter Tryz.func137, Tryz.ntmps137
 go_wp2_with fail
 refine Calls.mono H.out ?_
 rintro e w1 ⟨rfl, hB⟩
 go_wp2
 go_ret
 exact ⟨rfl, hB⟩
theorem byte_conv (W : World) (g x : Nat) (h : W.cell? ⟨g, 0, none⟩ = some (.int .u8 ((x : Nat) : Int))) : (convert 165 9 (.slice (some ⟨g, 0, none⟩) 1 1)).run Tryz.prog W = .ok (.string (strOfNums [((x : Nat) : Int)])) W :=
 run_convert_bytes_arg (P := Tryz.prog) W 165 5 Tryz.underlying165 Tryz.underlying5 g 0 1 1 [((x : Nat) : Int)] rfl (fun i hi => by
  have : i = 0 := by simp at hi; omega
  subst this; simpa using h) 9 Tryz.underlying9
theorem strOfNums_cons (x : Int) (l : List Int) : strOfNums (x :: l) = strOfNums [x] ++ strOfNums l := by
 simp [strOfNums]
 apply ByteArray.ext
 simp
theorem rvint_at : ∀ (f n : Nat) (w : World), f ≤ 4 → n < 128 ^ (f + 1) →
  Calls Tryz.prog 136 #[.int .i64 n] w fun e w' => e = .returned (.string (strOfNums ((vb f n).map fun x => ((x : Nat) : Int)))) ∧ Below w.heap.size w w'
 | f, n, w, hf, hn => by
  by_cases hlt : n < 128
  ·have e1 : vb f n = [n] := by cases f <;> simp [vb, hlt]
   rw [e1]
   have hcv := byte_conv (w.alloc (.cells #[.int .u8 ((n : Nat) : Int)] 5)) w.heap.size n (cell_one_new _ _ _ 0 _ rfl)
   have hmod : (n : Int) % 256 = (n : Int) := by omega
   have hi : (n : Int) < 128 := by omega
   clear hf hn
   go_enter Tryz.func136, Tryz.ntmps136
   go_wp2
   go_ret
   exact ⟨rfl, (Below.refl _ _).alloc (Nat.le_refl _) _⟩
  ·obtain ⟨f', rfl⟩ : ∃ f', f = f' + 1 := by
    cases f with
    | zero => exact absurd (by simpa using hn) hlt
    | succ f' => exact ⟨f', rfl⟩
   have H : Hid _ := fun W => rvint_at f' (n / 128) W (by omega) (by rw [Nat.pow_succ] at hn; omega)
   have e1 : vb (f' + 1) n = (n % 128 + 128) :: vb f' (n / 128) := by rw [vb, if_neg hlt]
   rw [e1, List.map_cons, strOfNums_cons]
   have HLN : Hid _ := vb_len f' (n / 128)
   have hsz : (strOfNums ((vb f' (n / 128)).map fun x => ((x : Nat) : Int))).size ≤ 5 := by
    rw [strOfNums_size, List.length_map]; have := HLN.out; omega
   obtain ⟨T, hT⟩ : ∃ T, strOfNums ((vb f' (n / 128)).map fun x => ((x : Nat) : Int)) = T := ⟨_, rfl⟩
   rw [hT] at H hsz ⊢
   have hn9 : n < 9223372036854775808 := Nat.lt_of_lt_of_le hn (Nat.le_trans (Nat.pow_le_pow_right (by omega) (show f' + 1 + 1 ≤ 6 by omega)) (by decide))
   obtain ⟨x, hx⟩ : ∃ x : Int, IntKind.u8.wrap (IntKind.i64.wrap ((n : Int).tmod 128 + 128)) = x := ⟨_, rfl⟩
   have HX : Hid (x = ((n % 128 + 128 : Nat) : Int)) := by
    show x = _
    rw [← hx]
    have : (n : Int).tmod 128 = ((n % 128 : Nat) : Int) := by rw [Int.tmod_eq_emod_of_nonneg (by omega)]; omega
    rw [this]
    have h1 : IntKind.i64.wrap (((n % 128 : Nat) : Int) + 128) = ((n % 128 + 128 : Nat) : Int) := by
     rw [IntKind.wrap_i64]; omega
    rw [h1, IntKind.wrap_u8]; omega
   have HQ : Hid (IntKind.i64.wrap ((n : Int) / 128) = ((n / 128 : Nat) : Int)) := by
    show IntKind.i64.wrap ((n : Int) / 128) = _
    rw [IntKind.wrap_i64]; omega
   have hS1 : (strOfNums [((n % 128 + 128 : Nat) : Int)]).size = 1 := strOfNums_size _
   have HCV : Hid _ := fun W g (h : W.cell? ⟨g, 0, none⟩ = some (.int .u8 x)) => byte_conv W g (n % 128 + 128) (by rw [← HX.out]; exact h)
   obtain ⟨S, hS⟩ : ∃ S, strOfNums [((n % 128 + 128 : Nat) : Int)] = S := ⟨_, rfl⟩
   rw [hS] at HCV hS1 ⊢
   have hcA := HCV.out (w.alloc (.cells #[.int .u8 x] 5)).drew w.heap.size (cell_one_new w _ _ 0 _ rfl)
   have hi : ¬ ((n : Int) < 128) := by omega
   clear hf hn hT e1 HLN HX hS
   go_enter Tryz.func136, Tryz.ntmps136
   go_wp2_with fail
   go_region_with (go_at_call 136; rw [HQ.out]; refine Calls.mono (H.out _) ?_; rintro e w' ⟨rfl, hb⟩; (first | (have hcB := HCV.out w' w.heap.size ((hb.cell (p := ⟨w.heap.size, 0, none⟩) (by simp)).trans (cell_one_new w _ _ 0 _ rfl))) | skip); (first | (have hbw : Below w.heap.size w w' := (((Below.refl _ _).alloc (Nat.le_refl _) _).drew).trans (hb.mono (by simp))) | (have hbw : Below w.heap.size w w' := ((Below.refl _ _).drew).trans (hb.mono (by simp)))); have hcC := HCV.out (w'.alloc (.cells #[.int .u8 x] 5)) w'.heap.size (cell_one_new w' _ _ 0 _ rfl))
   all_goals (go_wp2; go_ret; first | exact ⟨rfl, hbw⟩ | exact ⟨rfl, hbw.alloc hbw.size _⟩)
theorem rvint_any (n : Nat) (w : World) (hn : n < 4294967296) :
  Calls Tryz.prog 136 #[.int .i64 n] w fun e w' => e = .returned (.string (vint n)) ∧ Below w.heap.size w w' :=
 rvint_at 4 n w (Nat.le_refl _) (Nat.lt_of_lt_of_le hn (by decide))
theorem rleaf_any (s : ByteArray) (w : World) (hs : s.size ≤ 1000000000) :
  Calls Tryz.prog 88 #[.string s] w fun e w' => e = .returned (.string (⟨#[0]⟩ ++ s)) ∧ w' = w := by
 go_enter Tryz.func88, Tryz.ntmps88
 go_wp2
 go_ret
 exact ⟨rfl, rfl⟩
theorem rooted_any (kt : Nat → Int) (l : ByteArray) (L : Nat → ByteArray) (n : Nat) (v : Value) (w : World) (hl : l.size ≤ 1000000000) (hG : Gr kt w) (hL : ∀ i, i < n → (L i).size ≤ 32)
  (hv : (v = .slice none 0 0 ∧ n = 0) ∨ ∃ b cap, v = .slice (some ⟨b, 0, none⟩) n cap ∧ n ≤ cap ∧ cap < 9223372036854775808 ∧ b < w.heap.size ∧ Co w b 0 n (tI L)) :
  Calls Tryz.prog 86 #[.string l, v] w fun e w' => e = .returned (.string (⟨#[2]⟩ ++ l ++ topT (ofT kt) n L)) ∧ Below w.heap.size w w' := by
 have H : Hid (Calls Tryz.prog 137 #[v] w fun e w' => e = .returned (.string (topT (ofT kt) n L)) ∧ Below w.heap.size w w') := by
  rcases hv with ⟨rfl, rfl⟩ | ⟨b, cap, rfl, h1, h2, h3, h4⟩
  ·exact rtop_nil kt L w hG
  ·exact rtop_any kt n L b 0 cap w h1 h2 hG h3 (fun i hi => Nat.le_trans (hL i hi) (by omega)) h4
 have q2 : (topT (ofT kt) n L).size ≤ 35184372088832 := topT_le (ofT kt) 35184372088832 (ofT_le kt) n L (fun i hi => Nat.le_trans (hL i hi) (by omega))
 have q1 : ((⟨#[2]⟩ : ByteArray) ++ l).size ≤ 1000000001 := by
  rw [ByteArray.size_append]
  have : (⟨#[2]⟩ : ByteArray).size = 1 := rfl
  omega
 clear hv hG hL
 go_enter Tryz.func86, Tryz.ntmps86
 go_wp2_with fail
 refine Calls.mono H.out ?_
 rintro e w1 ⟨rfl, hb1⟩
 go_wp2
 go_ret
 exact ⟨rfl, hb1⟩
def b8 (l : List Nat) : List UInt8 := l.map UInt8.ofNat
def vi (n : Nat) : List UInt8 := b8 (vb 4 n)
theorem vint_list (n : Nat) : (vint n).data.toList = vi n := by
 unfold vint vi b8
 rw [strOfNums_data, List.map_map]
 apply List.map_congr_left
 intro a _
 simp
theorem drop_get {t : ByteArray} {i : Nat} (h : i < t.size) : t.data.toList.drop i = t[i] :: t.data.toList.drop (i + 1) := by
 rw [List.drop_eq_getElem_cons (by simpa using h)]
 rfl
theorem vb_small (f n : Nat) (h : n < 128) : vb f n = [n] := by
 cases f with
 | zero => rfl
 | succ f => rw [vb, if_pos h]
theorem byte_of {x : UInt8} {b : Nat} (h : x.toNat = b) : x = UInt8.ofNat b := by
 rw [← h]; simp
theorem vrF_dec (t : ByteArray) : ∀ (k i sum : Nat), (vrF t i sum (k + 1)).2 ≠ 0 → ∃ m, (vrF t i sum (k + 1)).1 = sum + m * 128 ^ i ∧ (0 < i → m ≠ 0) ∧ (vrF t i sum (k + 1)).2 = i + (vb k m).length ∧ t.data.toList.drop i = b8 (vb k m) ++ t.data.toList.drop (i + (vb k m).length)
 | k, i, sum, h => by
  rw [vrF] at h ⊢
  by_cases hi : i < t.size
  ·rw [dif_pos hi] at h ⊢
   obtain ⟨b, hb⟩ : ∃ b, t[i].toNat = b := ⟨_, rfl⟩
   have hb2 : b < 256 := by rw [← hb]; exact t[i].toNat_lt
   have hd := drop_get hi
   rw [byte_of hb] at hd
   rw [hb] at h ⊢
   by_cases hp : 128 ≤ b
   ·rw [if_pos hp] at h ⊢
    cases k with
    | zero => exact absurd rfl h
    | succ k =>
     obtain ⟨m, h1, h2, h3, h4⟩ := vrF_dec t k (i + 1) _ h
     have hm := h2 (by omega)
     have e : vb (k + 1) (b % 128 + 128 * m) = b :: vb k m := by
      rw [vb, if_neg (by omega)]
      have e1 : (b % 128 + 128 * m) % 128 + 128 = b := by omega
      have e2 : (b % 128 + 128 * m) / 128 = m := by omega
      rw [e1, e2]
     refine ⟨b % 128 + 128 * m, ?_, fun _ => by omega, ?_, ?_⟩
     ·rw [h1, Nat.pow_succ, Nat.add_mul]
      have : m * (128 ^ i * 128) = 128 * m * 128 ^ i := by rw [Nat.mul_comm 128 m, Nat.mul_assoc, Nat.mul_comm (128 ^ i) 128]
      omega
     ·rw [h3, e, List.length_cons]; omega
     ·rw [e, hd, h4, List.length_cons]
      have : i + 1 + (vb k m).length = i + ((vb k m).length + 1) := by omega
      rw [this]
      rfl
   ·rw [if_neg hp] at h ⊢
    by_cases hc : 4294967295 < sum + b % 128 * 128 ^ i ∨ (b = 0 ∧ 0 < i)
    ·rw [if_pos hc] at h; exact absurd rfl h
    ·rw [if_neg hc]
     have e : vb k b = [b] := vb_small k b (by omega)
     have hm : b % 128 = b := Nat.mod_eq_of_lt (by omega)
     refine ⟨b, by rw [hm], fun h0 e0 => hc (.inr ⟨e0, h0⟩), by rw [e]; rfl, by rw [e, hd]; rfl⟩
  ·rw [dif_neg hi] at h; exact absurd rfl h
theorem vrd_dec {t : ByteArray} (h : (vrd t).2 ≠ 0) : t.data.toList = vi (vrd t).1 ++ t.data.toList.drop (vrd t).2 := by
 obtain ⟨m, h1, _, h3, h4⟩ := vrF_dec t 4 0 0 h
 have e : (vrd t).1 = m := by show (vrF t 0 0 (4 + 1)).1 = m; rw [h1]; simp
 have e2 : (vrd t).2 = (vb 4 m).length := by show (vrF t 0 0 (4 + 1)).2 = _; rw [h3]; simp
 rw [e, e2]
 simpa [vi] using h4
end Go.Proofs.YtadinjaocnlglaaGreatDoor
