/-
  The walk of layout.Read.
  The walk of stock.read.
  The walks of Head.CountStripes and Head.Same.
-/
import Derived.Test.YtadinjaocnlglaaGreatDoorZ23
import Derived.Test.YtadinjaocnlglaaGreatDoorZ13
namespace Go.Proofs.YtadinjaocnlglaaGreatDoor
open Go.RowKit
set_option maxRecDepth 100000
set_option maxHeartbeats 4000000
/-- a Volume as it lies in memory -/
def VolAt (T : TT) (rest : ByteArray) (B g : Nat) (w : World) : Prop := ∃ aE kE q, w.heap[g]? = some (.cells (volC T.root T.lst T.L.K T.L.M T.L.C T.L.V (.slice aE T.L.es.length kE) T.lv T.num T.first (.slice (some ⟨q, 0, none⟩) (rest.size / T.L.C) (rest.size / T.L.C))) 319 (0, 0)) ∧ B ≤ g ∧ B ≤ q ∧ Rw w q (rest.size / T.L.C) 9 (tX (pc rest T.L.C)) ∧ w.ownsRow B 70 2 (.slice aE T.L.es.length kE) T.L.es.length (enV T.L.es)
def RdErr (k p : Nat) (e : Ending) (w : World) : Prop := ∃ q, e = .returned (.tuple #[.pointer none, .iface 305 (.pointer (some ⟨q, 0, none⟩))]) ∧ w.heap[q]? = some (.cells #[.int .i64 k, .int .i64 p, .nilIface] 307 (0, 0))
def RdDid (kt : Nat → Int) (t : ByteArray) (w : World) (e : Ending) (w' : World) : Prop := Below w.heap.size w w' ∧ (∀ k p, rdE kt t = some (k, p) → RdErr k p e w') ∧ (rdE kt t = none → ∃ g, e = .returned (.tuple #[.pointer (some ⟨g, 0, none⟩), .nilIface]) ∧ VolAt (RS.on t).told (tRest t) w.heap.size g w')
theorem RdDid.bad {kt : Nat → Int} {t : ByteArray} {w w' : World} {k p q : Nat} (h : rdE kt t = some (k, p)) (hb : Below w.heap.size w w') (hq : w'.heap[q]? = some (.cells #[.int .i64 k, .int .i64 p, .nilIface] 307 (0, 0))) : RdDid kt t w (.returned (.tuple #[.pointer none, .iface 305 (.pointer (some ⟨q, 0, none⟩))])) w' :=
  ⟨hb, fun k' p' h' => by rw [h] at h'; cases h'; exact ⟨q, rfl, hq⟩, fun h' => by rw [h] at h'; cases h'⟩
theorem RdDid.good {kt : Nat → Int} {t : ByteArray} {w w' : World} {g : Nat} (h : rdE kt t = none) (hb : Below w.heap.size w w') (hv : VolAt (RS.on t).told (tRest t) w.heap.size g w') : RdDid kt t w (.returned (.tuple #[.pointer (some ⟨g, 0, none⟩), .nilIface])) w' :=
  ⟨hb, fun k p h' => (by rw [h] at h'; cases h'), fun _ => ⟨g, rfl, hv⟩⟩
theorem texts_ne {a b : ByteArray} (h : a ≠ b) : (a.toList == b.toList) = false := by
  rw [beq_eq_false_iff_ne]
  intro e
  exact h (ByteArray.ext (by rw [ByteArray.toList_eq, ByteArray.toList_eq] at e; exact Array.toList_inj.1 e))
theorem texts_eq {a b : ByteArray} (h : a = b) : (a.toList == b.toList) = true := by subst h; simp
/-- between the calls of Read -/
structure RdSt (w : World) (r g : Nat) (T : TT) (aE : Option Addr) (kE : Nat) (st : RS) (X : World) : Prop where
  vol : X.heap[g]? = some (.cells (volC T.root T.lst T.L.K T.L.M T.L.C T.L.V (.slice aE T.L.es.length kE) T.lv T.num 0 (.slice none 0 0)) 319 (0, 0))
  own : X.ownsRow w.heap.size 70 2 (.slice aE T.L.es.length kE) T.L.es.length (enV T.L.es)
  fr : Fr (fun j => j = r) w X
  ri : RI r st X
theorem RdSt.next {w : World} {r g : Nat} {T : TT} {aE : Option Addr} {kE : Nat} {st st' : RS} {X Y : World} (h : RdSt w r g T aE kE st X) (hd : RDid r st' X Y) : RdSt w r g T aE kE st' Y where
  vol := by rw [hd.2.old g (Array.getElem?_eq_some_iff.1 h.vol).1 (fun e => by have h1 := h.vol; rw [e, h.ri.row] at h1; simp at h1)]; exact h.vol
  own := own_kept h.own (fun q hq => hd.2.old q (own_lt h.own q hq) (fun e => by
    obtain ⟨cur, hc⟩ := own_type h.own q hq
    have h2 := h.ri.row
    rw [← e, hc] at h2; simp at h2))
  fr := h.fr.trans' hd.2
  ri := hd.1
theorem RdSt.low {w : World} {r g : Nat} {T : TT} {aE : Option Addr} {kE : Nat} {st : RS} {X Y : World} (h : RdSt w r g T aE kE st X) (hb : Below X.heap.size X Y) : RdSt w r g T aE kE st Y := h.next (RDid.same h.ri hb)
theorem lread (kt : Nat → Int) (t : ByteArray) (w : World) (hG : Gd kt w) (ht : t.size ≤ 140737488351232) : Calls Tryz.prog 205 #[.string t] w fun e w' => RdDid kt t w e w' := by
  have HG : Hid _ := hG
  clear hG
  by_cases hbig : 60000 < t.size
  · have hE : rdE kt t = some (4, t.size) := by unfold rdE; rw [if_pos hbig]
    have HE : Hid _ := hE
    clear hE
    have hbi : (60000 : Int) < (t.size : Int) := by omega
    go_enter Tryz.func205, Tryz.ntmps205
    go_wp2_with fail
    refine Calls.mono (at_err 4 _ w) ?_
    rintro e w1 ⟨q, rfl, hq, hB⟩
    have HQ : Hid _ := hq
    have HB : Hid _ := hB
    clear hq hB
    go_wp2_with fail
    go_ret2
    exact RdDid.bad HE.out HB.out HQ.out
  · have hbi : ¬ (60000 : Int) < (t.size : Int) := by omega
    obtain ⟨T, hT⟩ : ∃ T, (RS.on t).told = T := ⟨_, rfl⟩
    obtain ⟨ck, hck⟩ : ∃ x, (tCk t).2 = x := ⟨_, rfl⟩
    obtain ⟨s5, hs5⟩ : ∃ x, (tCk t).1 = x := ⟨_, rfl⟩
    obtain ⟨td, htd⟩ : ∃ x, tTold t = x := ⟨_, rfl⟩
    have hk : T.st.bytes 32 = (s5, ck) := by rw [← hT, ← hs5, ← hck]; rfl
    have htx : T.st.text = t := by rw [← hT]; exact (told_adv (RS.on t)).1
    have htd' : T.st.text.extract 0 T.st.next = td := by rw [htx, ← htd, ← hT]; rfl
    have htds : td.size ≤ 60000 := by rw [← htd', ByteArray.size_extract, htx]; omega
    have hlsz : T.lst.size ≤ 60000 := by have h1 := told_lst (RS.on t); rw [hT] at h1; have h2 : (RS.on t).text.size = t.size := rfl; omega
    have HE : Hid (rdE kt t = if s5.wrong then some (7, s5.field) else if ck = ofT kt (⟨#[3]⟩ ++ td) then (if T.root = rootT (ofT kt) T.lst T.L.cnt (pc T.lv 32) then (if T.size < (tRest t).size then some (7, s5.next + T.size) else none) else some (9, 4)) else some (8, T.st.next)) := by
      show _ = _
      unfold rdE
      rw [if_neg hbig, hs5, hck, htd, hT]
    have HL : Hid (s5.wrong = false → Told1 T) := fun h => by rw [← hT]; exact ck_ok (by rw [hs5]; exact h)
    have HLE : Hid (T.L.es.length ≤ 16 ∧ lenE T.L.es ≤ 4096) := by rw [← hT]; exact told_len _
    have HS5 : Hid ((tCk t).1 = s5) := hs5
    have HTX : Hid (s5.text = t) := by rw [← hs5]; exact ck_text t
    go_enter Tryz.func205, Tryz.ntmps205
    go_wp2_with fail
    refine Calls.mono (rnew t w (by omega)) ?_
    rintro e w1 ⟨r, rfl, hr, hI, hB⟩
    have HR0 : Hid (w.heap.size ≤ r) := hr
    have HI1 : Hid (RI r (RS.on t) w1) := hI
    have HB1 : Hid _ := hB
    clear hr hI hB
    go_wp2_with fail
    refine Calls.mono (rtold r (RS.on t) w1 HI1.out) ?_
    rintro e w2 ⟨g, vE, rfl, hg, hV, hO, hD⟩
    obtain ⟨aE, kE, rfl⟩ := own_shape hO
    rw [hT] at hV hO hD
    have HGG : Hid (w.heap.size ≤ g) := Nat.le_trans HB1.out.size hg
    have H2 : Hid (RdSt w r g T aE kE T.st w2) := ⟨hV, own_base hO HB1.out.size, (Fr.below HB1.out).trans' hD.2, hD.1⟩
    clear hg hV hO hD
    have HS : Hid _ := rsince r T.st 0 w2 H2.out.ri (Nat.zero_le _)
    rw [htd'] at HS
    go_wp2_with fail
    refine Calls.mono HS.out ?_
    rintro e w3 ⟨rfl, hB⟩
    have H3 : Hid _ := H2.out.low hB
    clear hB H2 HS
    have HPL : Hid _ := rplace r T.st w3 H3.out.ri
    go_wp2_with fail
    refine Calls.mono HPL.out ?_
    rintro e w3 ⟨rfl, rfl⟩
    have HBY : Hid _ := rbytes r T.st 32 w3 H3.out.ri (by omega)
    rw [hk] at HBY
    go_wp2_with fail
    refine Calls.mono HBY.out ?_
    rintro e w4 ⟨rfl, hD⟩
    have H4 : Hid _ := H3.out.next hD
    clear hD H3 HPL HBY
    have HW : Hid _ := rwrong r s5 w4 H4.out.ri
    go_wp2_with fail
    refine Calls.mono HW.out ?_
    rintro e w5 ⟨rfl, hB⟩
    have H5 : Hid _ := H4.out.low hB
    have HZ : Hid (∀ X, Fr (fun j => j = r) w X → Below w.heap.size w X) := fun X hX => Fr.toBelow (hX.mono (fun j hj e => by have h1 := HR0.out; have e' : j = r := e; omega))
    clear hB H4 HW hck hs5 htd hk htd'
    cases hwr : s5.wrong with
    | true =>
      go_wp2_with fail
      refine Calls.mono (at_err 7 _ w5) ?_
      rintro e w6 ⟨q, rfl, hq, hB⟩
      have HQ : Hid _ := hq
      have HB : Hid _ := hB
      clear hq hB
      go_wp2_with fail
      go_ret2
      exact RdDid.bad (by rw [HE.out, if_pos hwr]) ((HZ.out _ H5.out.fr).trans (HB.out.mono H5.out.fr.size)) HQ.out
    | false =>
      have HL1 : Hid _ := HL.out hwr
      have HE2 : Hid _ := HE.out
      rw [hwr, if_neg (by simp)] at HE2
      clear HE HL
      have hgd : Gd kt w5 := HG.out.below (HZ.out _ H5.out.fr)
      have HDG : Hid _ := of_any kt (⟨#[3]⟩ ++ td) w5 (by rw [ByteArray.size_append]; have : (⟨#[3]⟩ : ByteArray).size = 1 := rfl; omega) hgd.tab hgd.one
      obtain ⟨dg, hdg⟩ : ∃ x, ofT kt (⟨#[3]⟩ ++ td) = x := ⟨_, rfl⟩
      rw [hdg] at HDG HE2
      clear hgd hdg
      go_wp2_with fail
      refine Calls.mono HDG.out ?_
      rintro e w6 ⟨rfl, hB⟩
      have H6 : Hid _ := H5.out.low hB
      clear hB HDG H5
      by_cases hcd : ck = dg
      · rw [if_pos hcd] at HE2
        have hcq := texts_eq hcd
        clear hcd
        have H6B : Hid (Below w.heap.size w w6) := HZ.out _ H6.out.fr
        have hvl : T.lv.size = T.L.cnt * 32 := HL1.out.lv
        have hcnt : T.L.cnt ≤ 512 := HL1.out.cnt
        have hgl6 : g < w6.heap.size := (Array.getElem?_eq_some_iff.1 H6.out.vol).1
        have HC1 : Hid (∀ X : World, Below w6.heap.size w6 X → Calls Tryz.prog 203 #[.string T.lv, .int .i64 32] X fun e w' => e = .returned (.slice (some ⟨X.heap.size, 0, none⟩) T.L.cnt T.L.cnt) ∧ Rw w' X.heap.size T.L.cnt 9 (tX (pc T.lv 32)) ∧ Below X.heap.size X w') := fun X _ => cut_any T.lv 32 T.L.cnt X (by omega) (by omega) (by omega) hvl
        obtain ⟨rt, hrt⟩ : ∃ x, rootT (ofT kt) T.lst T.L.cnt (pc T.lv 32) = x := ⟨_, rfl⟩
        rw [hrt] at HE2
        have HC2 : Hid (∀ (X : World) (b : Nat), Below w6.heap.size w6 X → Rw X b T.L.cnt 9 (tX (pc T.lv 32)) → Calls Tryz.prog 182 #[.string T.lst, .slice (some ⟨b, 0, none⟩) T.L.cnt T.L.cnt] X fun e w' => e = .returned (.string rt) ∧ Below X.heap.size X w') := fun X b hX hR => by
          rw [← hrt]
          exact rootOf_any kt T.lst (pc T.lv 32) b T.L.cnt T.L.cnt X (by omega) (by omega) (fun i hi => by rw [pc_size T.lv 32 T.L.cnt i hvl hi]; exact Nat.le_refl _) (HG.out.below (H6B.out.trans (hX.mono H6B.out.size))) (Array.getElem?_eq_some_iff.1 hR).1 (fun i hi => hR.cell i hi)
        have HV : Hid (∀ X : World, Below w6.heap.size w6 X → X.cell? ⟨g, 0, none⟩ = some (.string T.root) ∧ X.cell? ⟨g, 1, none⟩ = some (.string T.lst) ∧ X.cell? ⟨g, 7, none⟩ = some (.string T.lv)) := fun X hX => by
          have h1 : X.heap[g]? = some (.cells (volC T.root T.lst T.L.K T.L.M T.L.C T.L.V (.slice aE T.L.es.length kE) T.lv T.num 0 (.slice none 0 0)) 319 (0, 0)) := by rw [hX.block g hgl6]; exact H6.out.vol
          exact ⟨cell_of_row _ _ _ _ 319 _ h1, cell_of_row _ _ _ _ 319 _ h1, cell_of_row _ _ _ _ 319 _ h1⟩
        obtain ⟨v0, v1, v7⟩ := HV.out w6 (Below.refl _ _)
        clear hrt hvl
        go_wp2_with fail
        go_region_held3 (fun w2 => w2.cell? ⟨g, 0, none⟩ = some (.string T.root) ∧ w2.cell? ⟨g, 1, none⟩ = some (.string T.lst) ∧ w2.cell? ⟨g, 7, none⟩ = some (.string T.lv)) (go_keep) (first | (go_at_call 203; refine Calls.mono (HC1.out _ (by first | exact Below.refl _ _ | exact (Below.refl _ _).drew)) ?_; rintro e w7 ⟨rfl, hR7, hb7⟩; have hB7 : Below w6.heap.size w6 w7 := (by first | exact hb7 | exact ((Below.refl _ _).drew).trans hb7); obtain ⟨x0, x1, x7⟩ := HV.out w7 hB7) | (go_at_call 182; refine Calls.mono (HC2.out _ _ hB7 hR7) ?_; rintro e w8 ⟨rfl, hb8⟩; have hB8 : Below w6.heap.size w6 w8 := (hB7.trans (hb8.mono hB7.size)); obtain ⟨y0, y1, y7⟩ := HV.out w8 hB8))
        have H8 : Hid _ := H6.out.low hB8
        clear hR7 hb7 hB7 x0 x1 x7 hb8 hB8 y0 y1 y7 v0 v1 v7 H6
        by_cases hrr : T.root = rt
        · rw [if_pos hrr] at HE2
          have hrq : (!(T.root.toList == rt.toList)) = false := by rw [texts_eq hrr]; rfl
          rw [hrq]
          clear hrq
          have HT1 := HL1.out
          have HRB : Hid _ := rblk r g w.heap.size T.L.K T.L.M T.L.C T.L.V T.num T.L.cnt T.first ((T.num + 1) * T.L.cnt / T.L.V) T.size ((tRest t).size / T.L.C) aE kE T.L.es T.root T.lst T.lv (tRest t) s5 w8 H8.out.ri hwr (by rw [HTX.out]; omega) H8.out.vol H8.out.own HLE.out.1 HLE.out.2 HT1.k1 HT1.km HT1.c1 HT1.c64 HT1.v1 HT1.v16 HT1.num rfl HT1.cnt rfl rfl rfl (by rw [HTX.out]; rw [← HS5.out]; rfl) rfl
          clear HT1
          go_wp2_with fail
          refine Calls.mono HRB.out ?_
          rintro e w9 (⟨hlt, q, rfl, hq, hF⟩ | ⟨hle, rfl, q, hq, hg9, hR9, hO9, hF⟩)
          · rw [if_pos hlt] at HE2
            have HQ : Hid _ := hq
            have HF9 : Hid _ := H8.out.fr.trans' hF
            clear hq hF
            go_wp2_with fail
            go_ret2
            exact RdDid.bad HE2.out (HZ.out _ HF9.out) HQ.out
          · rw [if_neg (by omega)] at HE2
            have HF9 : Hid (Below w.heap.size w w9) := Fr.toBelow ((H8.out.fr.trans (S1 := fun j => j = r ∨ j = g) (fun j hj => by
              rcases hj with e | e
              · exact .inl e
              · exact .inr (by have := HGG.out; omega)) hF).mono (fun j hj e => by have h1 := HR0.out; have e' : j = r := e; omega))
            have HV9 : Hid (VolAt T (tRest t) w.heap.size g w9) := ⟨aE, kE, q, hg9, HGG.out, Nat.le_trans H8.out.fr.size hq, hR9, hO9⟩
            clear hq hF hg9 hR9 hO9
            go_wp2_with fail
            go_ret2
            exact RdDid.good HE2.out HF9.out (by rw [hT]; exact HV9.out)
        · rw [if_neg hrr] at HE2
          have hrq : (!(T.root.toList == rt.toList)) = true := by rw [texts_ne hrr]; rfl
          rw [hrq]
          clear hrq
          go_wp2_with fail
          refine Calls.mono (at_err 9 4 w8) ?_
          rintro e w9 ⟨q, rfl, hq, hB⟩
          have HQ : Hid _ := hq
          have HB : Hid _ := hB
          clear hq hB
          go_wp2_with fail
          go_ret2
          exact RdDid.bad HE2.out ((HZ.out _ H8.out.fr).trans (HB.out.mono H8.out.fr.size)) HQ.out
      · rw [if_neg hcd] at HE2
        have hcq := texts_ne hcd
        go_wp2_with fail
        refine Calls.mono (at_err 8 _ w6) ?_
        rintro e w7 ⟨q, rfl, hq, hB⟩
        have HQ : Hid _ := hq
        have HB : Hid _ := hB
        clear hq hB
        go_wp2_with fail
        go_ret2
        exact RdDid.bad HE2.out ((HZ.out _ H6.out.fr).trans (HB.out.mono H6.out.fr.size)) HQ.out
end Go.Proofs.YtadinjaocnlglaaGreatDoor
namespace Go.Proofs.YtadinjaocnlglaaGreatDoor
open Go.RowKit
set_option maxRecDepth 100000
set_option maxHeartbeats 4000000
/-- which refusal a volume's text brings where that root is asked for, if any -/
def sdE (kt : Nat → Int) (rt t : ByteArray) : Option (Nat × Nat) :=
  if (rdE kt t).isSome then rdE kt t else if rt = ⟨#[]⟩ then none else if (RS.on t).told.root = rt then none else some (9, 4)
def SdDid (kt : Nat → Int) (rt t : ByteArray) (w : World) (e : Ending) (w' : World) : Prop := Below w.heap.size w w' ∧ (∀ k p, sdE kt rt t = some (k, p) → RdErr k p e w') ∧ (sdE kt rt t = none → rdE kt t = none ∧ ∃ g, e = .returned (.tuple #[.pointer (some ⟨g, 0, none⟩), .nilIface]) ∧ VolAt (RS.on t).told (tRest t) w.heap.size g w')
theorem sread (kt : Nat → Int) (t rt : ByteArray) (w : World) (hG : Gd kt w) (ht : t.size ≤ 140737488351232) : Calls Tryz.prog 157 #[.string t, .string rt] w fun e w' => SdDid kt rt t w e w' := by
  have HR : Hid _ := lread kt t w hG ht
  clear hG ht
  go_enter Tryz.func157, Tryz.ntmps157
  go_wp2_with fail
  refine Calls.mono HR.out ?_
  rintro e w1 ⟨hB, h1, h2⟩
  cases hE : rdE kt t with
  | some kp =>
    obtain ⟨k, p⟩ := kp
    obtain ⟨q, rfl, hq⟩ := h1 k p hE
    have HB : Hid _ := hB
    have HQ : Hid _ := hq
    have HE : Hid (sdE kt rt t = some (k, p)) := by show sdE kt rt t = _; unfold sdE; rw [hE]; rfl
    clear h1 h2 hB hq
    go_wp2_with fail
    go_ret2
    exact ⟨HB.out, fun k' p' h' => (by rw [HE.out] at h'; cases h'; exact ⟨q, rfl, HQ.out⟩), fun h' => (by rw [HE.out] at h'; cases h')⟩
  | none =>
    obtain ⟨g, rfl, hV⟩ := h2 hE
    have HB : Hid _ := hB
    have HV : Hid _ := hV
    have HE : Hid (sdE kt rt t = if rt = ⟨#[]⟩ then none else if (RS.on t).told.root = rt then none else some (9, 4)) := by show sdE kt rt t = _; unfold sdE; rw [hE]; rfl
    have c0 : w1.cell? ⟨g, 0, none⟩ = some (.string (RS.on t).told.root) := by obtain ⟨aE, kE, q, hg, _⟩ := hV; exact cell_of_row _ _ _ _ 319 _ hg
    have HE0 : Hid _ := hE
    clear h1 h2 hB hV hE
    obtain ⟨ro, hro⟩ : ∃ x, (RS.on t).told.root = x := ⟨_, rfl⟩
    rw [hro] at c0 HE
    clear hro
    by_cases hrt : rt = ⟨#[]⟩
    · rw [if_pos hrt] at HE
      have hq := texts_eq hrt
      go_wp2_with fail
      go_ret2
      exact ⟨HB.out, fun k' p' h' => (by rw [HE.out] at h'; cases h'), fun _ => ⟨HE0.out, g, rfl, HV.out⟩⟩
    · rw [if_neg hrt] at HE
      have hq1 : ¬ rt.toList = [] := fun e => hrt (ByteArray.ext (by rw [ByteArray.toList_eq] at e; exact Array.toList_inj.1 e))
      have hq2 : rt.toList.isEmpty = false := by simpa using hq1
      by_cases hrr : ro = rt
      · rw [if_pos hrr] at HE
        have hq3 := texts_eq hrr
        go_wp2_with fail
        go_ret2
        exact ⟨HB.out, fun k' p' h' => (by rw [HE.out] at h'; cases h'), fun _ => ⟨HE0.out, g, rfl, HV.out⟩⟩
      · rw [if_neg hrr] at HE
        have hq3 := texts_ne hrr
        go_wp2_with fail
        refine Calls.mono (at_err 9 4 w1) ?_
        rintro e w2 ⟨q, rfl, hq, hB⟩
        have HQ : Hid _ := hq
        have HB2 : Hid _ := hB
        clear hq hB
        go_wp2_with fail
        go_ret2
        exact ⟨HB.out.trans (HB2.out.mono HB.out.size), fun k' p' h' => (by rw [HE.out] at h'; cases h'; exact ⟨q, rfl, HQ.out⟩), fun h' => (by rw [HE.out] at h'; cases h')⟩
end Go.Proofs.YtadinjaocnlglaaGreatDoor
namespace Go.Proofs.YtadinjaocnlglaaGreatDoor
open Go.RowKit
set_option maxRecDepth 100000
set_option maxHeartbeats 4000000
theorem hstripes (b B n c K M C V : Nat) (a : Option Addr) (es : List (ByteArray × Nat)) (w : World) (c2 : w.cell? ⟨b, 2, none⟩ = some (.int .i64 K)) (c3 : w.cell? ⟨b, 3, none⟩ = some (.int .i64 M)) (c4 : w.cell? ⟨b, 4, none⟩ = some (.int .i64 C)) (c5 : w.cell? ⟨b, 5, none⟩ = some (.int .i64 V))
    (hc : w.cell? ⟨b, 6, none⟩ = some (.slice a n c)) (hn : es.length = n) (ho : w.ownsRow B 70 2 (.slice a n c) n (enV es)) (hs : ∀ i, lenE (es.take i) ≤ 100000) (hn2 : n ≤ 1000) (hK : 1 ≤ K) (hKM : K + M ≤ 255) (hC : 1 ≤ C) (hC2 : C ≤ 64) :
    Calls Tryz.prog 253 #[.pointer (some ⟨b, 0, none⟩)] w fun e w' => e = .returned (.int .i64 (nst (K * C) (lenE es) : Nat)) ∧ Below w.heap.size w w' := by
  have hz0 : 0 < K * C := Nat.mul_pos hK hC
  have hz1 : K * C ≤ 100000 := Nat.le_trans (Nat.mul_le_mul (show K ≤ 255 by omega) hC2) (by omega)
  have hle : lenE es ≤ 100000 := by have := hs es.length; rw [List.take_length] at this; exact this
  have hbl : b < w.heap.size := block_lt_of_cell c2
  have H1 : Hid (∀ X : World, Below w.heap.size w X → Calls Tryz.prog 260 #[.pointer (some ⟨b, 0, none⟩)] X fun e w' => e = .returned (.int .i64 (lenE es)) ∧ Below X.heap.size X w') := fun X hX => hlength b B n c a es X ((hX.cell (p := ⟨b, 6, none⟩) hbl).trans hc) hn (own_below ho hX) (fun i => Nat.le_trans (hs i) (by omega)) hn2
  have H2 : Hid (∀ X : World, Calls Tryz.prog 197 #[.agg #[.int .i64 K, .int .i64 M, .int .i64 C, .int .i64 V], .int .i64 (lenE es)] X fun e w' => e = .returned (.int .i64 (nst (K * C) (lenE es) : Nat)) ∧ Below X.heap.size X w') := fun X => countStripes_any K M C V (lenE es) (K * C) X rfl hz0 hz1 hle
  obtain ⟨cn, hcn⟩ : ∃ cn, nst (K * C) (lenE es) = cn := ⟨_, rfl⟩
  rw [hcn] at H2 ⊢
  clear hc hn ho hs
  go_enter Tryz.func253, Tryz.ntmps253
  go_wp2_with fail
  go_region_held3 (fun w2 => w2.cell? ⟨b, 2, none⟩ = some (.int .i64 K) ∧ w2.cell? ⟨b, 3, none⟩ = some (.int .i64 M) ∧ w2.cell? ⟨b, 4, none⟩ = some (.int .i64 C) ∧ w2.cell? ⟨b, 5, none⟩ = some (.int .i64 V)) (go_keep) (first | (go_at_call 260; refine Calls.mono (H1.out _ (by first | exact Below.refl _ _ | exact (Below.refl _ _).drew)) ?_; rintro e w1 ⟨rfl, hb1⟩; have hB1 : Below w.heap.size w w1 := (by first | exact hb1 | exact ((Below.refl _ _).drew).trans hb1); have q2 := (hB1.cell (p := ⟨b, 2, none⟩) hbl).trans c2; have q3 := (hB1.cell (p := ⟨b, 3, none⟩) hbl).trans c3; have q4 := (hB1.cell (p := ⟨b, 4, none⟩) hbl).trans c4; have q5 := (hB1.cell (p := ⟨b, 5, none⟩) hbl).trans c5) | (go_at_call 197; refine Calls.mono (H2.out _) ?_; rintro e w2 ⟨rfl, hb2⟩; have hB2 : Below w.heap.size w w2 := (hB1.trans (hb2.mono hB1.size)); have u2 := (hB2.cell (p := ⟨b, 2, none⟩) hbl).trans c2; have u3 := (hB2.cell (p := ⟨b, 3, none⟩) hbl).trans c3; have u4 := (hB2.cell (p := ⟨b, 4, none⟩) hbl).trans c4; have u5 := (hB2.cell (p := ⟨b, 5, none⟩) hbl).trans c5))
  have HB : Hid _ := hB2
  clear hB1 hB2 hb1 hb2 q2 q3 q4 q5 u2 u3 u4 u5
  go_wp2
  go_ret
  exact ⟨rfl, HB.out⟩
theorem hsame (a b : Nat) (ra la va rb lb vb : ByteArray) (w : World) (a0 : w.cell? ⟨a, 0, none⟩ = some (.string ra)) (a1 : w.cell? ⟨a, 1, none⟩ = some (.string la)) (a7 : w.cell? ⟨a, 7, none⟩ = some (.string va))
    (b0 : w.cell? ⟨b, 0, none⟩ = some (.string rb)) (b1 : w.cell? ⟨b, 1, none⟩ = some (.string lb)) (b7 : w.cell? ⟨b, 7, none⟩ = some (.string vb)) :
    Calls Tryz.prog 207 #[.pointer (some ⟨a, 0, none⟩), .pointer (some ⟨b, 0, none⟩)] w fun e w' => e = .returned (.bool (decide (ra = rb ∧ la = lb ∧ va = vb))) ∧ Below w.heap.size w w' := by
  by_cases h1 : ra = rb
  · have q1 := texts_eq h1
    by_cases h2 : la = lb
    · have q2 := texts_eq h2
      by_cases h3 : va = vb
      · have q3 := texts_eq h3
        rw [decide_eq_true (show ra = rb ∧ la = lb ∧ va = vb from ⟨h1, h2, h3⟩)]
        clear h1 h2 h3
        go_enter Tryz.func207, Tryz.ntmps207
        go_wp2_with fail
        go_quiet (fail)
        go_wp2_with fail
        go_ret
        exact ⟨rfl, below_drewN (Below.refl _ _) _⟩
      · have q3 := texts_ne h3
        rw [decide_eq_false (show ¬ (ra = rb ∧ la = lb ∧ va = vb) from fun h => h3 h.2.2)]
        clear h1 h2 h3
        go_enter Tryz.func207, Tryz.ntmps207
        go_wp2_with fail
        go_quiet (fail)
        go_wp2_with fail
        go_ret
        exact ⟨rfl, below_drewN (Below.refl _ _) _⟩
    · have q2 := texts_ne h2
      rw [decide_eq_false (show ¬ (ra = rb ∧ la = lb ∧ va = vb) from fun h => h2 h.2.1)]
      clear h1 h2
      go_enter Tryz.func207, Tryz.ntmps207
      go_wp2_with fail
      go_quiet (fail)
      go_wp2_with fail
      go_ret
      exact ⟨rfl, below_drewN (Below.refl _ _) _⟩
  · have q1 := texts_ne h1
    rw [decide_eq_false (show ¬ (ra = rb ∧ la = lb ∧ va = vb) from fun h => h1 h.1)]
    clear h1
    go_enter Tryz.func207, Tryz.ntmps207
    go_wp2_with fail
    go_quiet (fail)
    go_wp2_with fail
    go_ret
    exact ⟨rfl, below_drewN (Below.refl _ _) _⟩
end Go.Proofs.YtadinjaocnlglaaGreatDoor
