/-
  The walks of Stock.part and Unpack where all stripes are whole.
  The walks of Stock.part and Unpack where all stripes are whole.
  Plain: a volume that is written is read rightly.
  Plain: a vault as data; its volumes, whole or harmed behind their heads, are taken.
-/
import Derived.Test.YtadinjaocnlglaaGreatDoorZ42
import Derived.Test.YtadinjaocnlglaaGreatDoorZ18
namespace Go.Proofs.YtadinjaocnlglaaGreatDoor
open Go.RowKit
set_option maxRecDepth 100000
set_option maxHeartbeats 8000000
/-- the objects that come out -/
def unO (kt : Nat → Int) (T : TT) (bl : Nat → ByteArray) (j : Nat) : Ob := (nmE T.L.es j, ⟨(strS kt T bl (lenE (T.L.es.take j)) (lenE (T.L.es.take j) + lnE T.L.es j)).toArray⟩)
theorem take_len (es : List (ByteArray × Nat)) (j : Nat) (hj : j < es.length) : lenE (es.take (j + 1)) = lenE (es.take j) + lnE es j := by
  rw [lenE_take es j hj]
  unfold lnE
  rw [List.getElem?_eq_getElem hj]
  rfl
theorem VS.grow {kt : Nat → Int} {B k g p q f : Nat} {T : TT} {un : Value} {ul : List Nat} {rd : Nat → Bool} {bl : Nat → ByteArray} {dn : Nat → Bool} {zs : Nat → Nat} {bd : Nat → Value} {w w2 : World} {B0 n : Nat} {v : Value} {xs : List Value} (h : VS kt B k g p q f T un ul rd bl dn zs bd w) (hv : w.ownsRow B0 72 2 v n xs) (hG : w.grownBy w2 v.ownBlock) : VS kt B k g p q f T un ul rd bl dn zs bd w2 :=
  h.kept (fun j cs t ht hj => by
    rw [hG.block j (Array.getElem?_eq_some_iff.1 hj).1 (fun e => by
      obtain ⟨cur, hcur⟩ := own_type hv j e.symm
      exact row_ne hj hcur (by rcases ht with e | e | e | e | e | e | e <;> simp [e]) rfl)]
    exact hj) (fun j hj => by
    have h3 : ∃ cur, w.heap[j]? = some (.cells cur 3 (0, 0)) := by
      rcases hj with e | ⟨s, hs, hd, e⟩
      · exact own_type h.unO j e
      · exact own_type (h.fn s hs hd).2 j e
    obtain ⟨cur, hcur⟩ := h3
    exact hG.block j (Array.getElem?_eq_some_iff.1 hcur).1 (fun e => by
      obtain ⟨cur', hcur'⟩ := own_type hv j e.symm
      exact row_ne hcur hcur' (by decide) rfl))
end Go.Proofs.YtadinjaocnlglaaGreatDoor
namespace Go.Proofs.YtadinjaocnlglaaGreatDoor
open Go.RowKit
set_option maxRecDepth 100000
set_option maxHeartbeats 8000000
theorem own_pair (w : World) (x y : ByteArray) : (w.alloc (.cells #[.string x, .string y] 72)).ownsRow w.heap.size 72 2 (.slice (some ⟨w.heap.size, 0, none⟩) 1 1) 1 [.string x, .string y] :=
  ⟨rfl, .inr ⟨w.heap.size, 1, #[.string x, .string y], rfl, Nat.le_refl _, heap_alloc_new _ _, Nat.le_refl _, by unfold maxLen; omega, rfl, rfl⟩⟩
/-- one object more -/
theorem own_obj {w : World} {B n : Nat} {v : Value} {F : Nat → Ob} (h : OwnF w B v n F) (hB : B ≤ w.heap.size) (hn : n ≤ 1000000) (x y : ByteArray) : ∃ v' w', (Builtin.append_ #[38, 38] 38 #[v, .slice (some ⟨w.heap.size, 0, none⟩) 1 1]).run Tryz.prog (w.alloc (.cells #[.string x, .string y] 72)) = .ok v' w' ∧ OwnF w' B v' (n + 1) (updF F n (x, y)) ∧ (w.alloc (.cells #[.string x, .string y] 72)).grownBy w' v.ownBlock := by
  obtain ⟨i0, hi0, z0, z1, z2⟩ := info_parts info36
  obtain ⟨v', w', hr, ho, hg, _⟩ := app_rows 38 Tryz.underlying38 hi0 z0 z1 z2 rfl (by decide) (h.alloc (.cells #[.string x, .string y] 72)) (own_pair w x y) (by intro u hu; simp at hu; rcases hu with rfl | rfl <;> rfl) (by omega) (by omega) (by simp; omega)
  refine ⟨v', w', hr, ?_, hg⟩
  unfold OwnF
  rw [objF_next]
  exact ho
def PDid (kt : Nat → Int) (B k g p q f : Nat) (T : TT) (un : Value) (ul : List Nat) (rd : Nat → Bool) (bl : Nat → ByteArray) (w : World) (v : Value) (w' : World) : Prop :=
  (∃ (dn' : Nat → Bool) (zs' : Nat → Nat) (bd' : Nat → Value), VS kt B k g p q f T un ul rd bl dn' zs' bd' w') ∧ Fr (fun j => j = q ∨ j = f) w w' ∧ OwnF w' w.heap.size v T.L.es.length (unO kt T bl)
theorem part_ok (kt : Nat → Int) (B k g p q f : Nat) (T : TT) (un : Value) (ul : List Nat) (rd : Nat → Bool) (bl : Nat → ByteArray) (dn : Nat → Bool) (zs : Nat → Nat) (bd : Nat → Value) (w : World) (h : VS kt B k g p q f T un ul rd bl dn zs bd w) (hT : Told1 T) (hle : T.L.es.length ≤ 16 ∧ lenE T.L.es ≤ 4096) (hG : Gd kt w) (hB : B ≤ w.heap.size) (ha : ∀ s, s < T.L.ns → stF kt T bl s = 0) :
    Calls Tryz.prog 121 #[.pointer (some ⟨k, 0, none⟩)] w fun e w' => ∃ v, e = .returned (.tuple #[v, .slice none 0 0]) ∧ PDid kt B k g p q f T un ul rd bl w v w' := by
  have H : Hid _ := h
  have HA : Hid _ := ha
  obtain ⟨aE, kE, num, first, vB, hg, hoE⟩ := h.hd
  have c0 : w.cell? ⟨k, 0, none⟩ = some (.pointer (some ⟨g, 0, none⟩)) := cell_of_row _ _ _ _ 224 _ h.row
  obtain ⟨ne, hne⟩ : ∃ x, T.L.es.length = x := ⟨_, rfl⟩
  have c6 : w.cell? ⟨g, 6, none⟩ = some (.slice aE ne kE) := by rw [← hne]; exact cell_of_row _ _ _ _ 319 _ hg
  have HEC : Hid (∀ (X : World), Fr (fun j => j = q ∨ j = f) w X → ∀ j, j < ne → ∃ b, aE = some ⟨b, 0, none⟩ ∧ b < X.heap.size ∧ X.cell? ⟨b, j * 2, none⟩ = some (.string (nmE T.L.es j)) ∧ X.cell? ⟨b, j * 2 + 1, none⟩ = some (.int .i64 (lnE T.L.es j))) := fun X hX j hj => by
    have ho : X.ownsRow B 70 2 (.slice aE T.L.es.length kE) T.L.es.length (enV T.L.es) := own_kept' hoE (fun y cs _ hy => by
      rw [hX.old y (Array.getElem?_eq_some_iff.1 hy).1 (fun e => by
        rcases e with e | e
        · exact row_ne hy h.blR (by decide) e
        · exact row_ne hy h.fiR (by decide) e)]
      exact hy)
    exact ent_cellsE rfl ho j (by omega)
  have hne16 : ne ≤ 16 := by rw [← hne]; exact hle.1
  have HLE : Hid _ := hle
  have HNE : Hid _ := hne
  have HLEN : Hid (∀ j, j < ne → lenE (T.L.es.take (j + 1)) = lenE (T.L.es.take j) + lnE T.L.es j ∧ lenE (T.L.es.take (j + 1)) ≤ lenE T.L.es) := fun j hj => ⟨take_len _ _ (by omega), lenE_take_le _ _⟩
  have HOKZ : Hid (∀ x, x < lenE T.L.es → stF kt T bl (x / (T.L.K * T.L.C)) = 0) := fun x hx => by
    refine ha _ ?_
    have hz1 : 0 < T.L.K * T.L.C := Nat.mul_pos hT.k1 hT.c1
    show x / (T.L.K * T.L.C) < nst (T.L.K * T.L.C) (lenE T.L.es)
    unfold nst
    rw [Nat.div_lt_iff_lt_mul hz1]
    have h2 := Nat.div_add_mod (lenE T.L.es + T.L.K * T.L.C - 1) (T.L.K * T.L.C)
    have h3 := Nat.mod_lt (lenE T.L.es + T.L.K * T.L.C - 1) hz1
    rw [Nat.mul_comm] at h2
    omega
  clear h hg hoE ha hne
  go_enter Tryz.func121, Tryz.ntmps121
  go_wp2_with fail
  clear c0 c6
  go_loopw [18, 4, 2, 3] (fun iv fv ov lv wr => ∃ (i : Nat) (dn' : Nat → Bool) (zs' : Nat → Nat) (bd' : Nat → Value) (vo : Value), i ≤ ne ∧ iv = .int .i64 i ∧ fv = .int .i64 (lenE (T.L.es.take i)) ∧ vo = ov ∧ lv = .slice none 0 0 ∧ VS kt B k g p q f T un ul rd bl dn' zs' bd' wr ∧ Fr (fun j => j = q ∨ j = f) w wr ∧ OwnF wr w.heap.size vo i (unO kt T bl)) (fun iv _ _ _ _ => ne - (intOf iv).toNat)
  case atStart => exact ⟨0, dn, zs, bd, _, by omega, rfl, by simp [lenE], rfl, rfl, H.out, Fr.refl _ _, ⟨by simp [objF], .inl ⟨rfl, rfl⟩⟩⟩
  case round =>
    obtain ⟨i, dn1, zs1, bd1, vo, hi, rfl, rfl, rfl, rfl, hV, hF, hO⟩ := hrel
    have HV : Hid _ := hV
    have HF : Hid _ := hF
    have HO : Hid (OwnF wr w.heap.size vo i (unO kt T bl)) := hO
    by_cases hlt : i < ne
    · have hin : (i : Int) < (ne : Int) := by omega
      obtain ⟨be, hbe, hbl, y0, y1⟩ := HEC.out wr hF i hlt
      subst hbe
      obtain ⟨hl1, hl2⟩ := HLEN.out i hlt
      have hl3 := HLE.out.2
      obtain ⟨fi, hfi⟩ : ∃ x, lenE (T.L.es.take i) = x := ⟨_, rfl⟩
      obtain ⟨ln, hln⟩ : ∃ x, lnE T.L.es i = x := ⟨_, rfl⟩
      obtain ⟨nm, hnm⟩ : ∃ x, nmE T.L.es i = x := ⟨_, rfl⟩
      rw [hl1] at hl2
      rw [hfi, hln] at hl2
      rw [hln] at y1
      rw [hnm] at y0
      rw [hfi]
      obtain ⟨W, hW⟩ : ∃ W, wr.alloc (.cells #[.string nm, .int .i64 ln] 70) = W := ⟨_, rfl⟩
      have hbW : Below wr.heap.size wr W := by rw [← hW]; exact (Below.refl _ _).alloc (Nat.le_refl _) _
      obtain ⟨eb, heb⟩ : ∃ x, wr.heap.size = x := ⟨_, rfl⟩
      have hWe : W.heap[eb]? = some (.cells #[.string nm, .int .i64 ln] 70 (0, 0)) := by rw [← hW, ← heb]; exact heap_alloc_new _ _
      have HWE : Hid _ := hWe
      have hVW := hV.below hbW
      have hFW := hF.thenBelow hbW
      have HDA : Hid _ := data_any kt B k g p q f fi (fi + ln) T un ul rd bl dn1 zs1 bd1 W hVW hT HLE.out (H.out.gd hG hFW) (Nat.le_trans hB hFW.size) (by omega) (by omega)
      have HVW : Hid _ := hVW
      have HFW : Hid _ := hFW
      have HOW : Hid (OwnF W w.heap.size vo i (unO kt T bl)) := own_below hO hbW
      have hsum : (fi : Int) + (ln : Int) = ((fi + ln : Nat) : Int) := by simp
      obtain ⟨en, hen⟩ : ∃ x, fi + ln = x := ⟨_, rfl⟩
      rw [hen] at HDA hsum hl2
      have HFI : Hid _ := hfi
      have HLN : Hid _ := hln
      have HNM : Hid _ := hnm
      have HEN : Hid _ := hen
      have HL1 : Hid _ := hl1
      have hi6 : en ≤ 4096 := by omega
      have HHW : Hid _ := hW
      have HEB : Hid _ := heb
      clear hV hF hO hfi hln hnm hbW hWe hVW hFW hen hl1 hW heb
      go_wp2_with fail
      rw [HHW.out, HEB.out]
      refine Calls.mono HDA.out ?_
      rintro e w1 ⟨⟨dn2, zs2, bd2, hV2⟩, hF2, ⟨_, rfl⟩ | ⟨⟨x, hx1, hx2, hx3⟩, _⟩⟩
      · have HV2 : Hid _ := hV2
        have HFF : Hid _ := HFW.out.trans' hF2
        have hold : ∀ (j : Nat) (cs : Array Value) (t : TypeId), t = 70 ∨ t = 72 → W.heap[j]? = some (.cells cs t (0, 0)) → w1.heap[j]? = some (.cells cs t (0, 0)) := fun j cs t ht hj => by
          rw [hF2.old j (Array.getElem?_eq_some_iff.1 hj).1 (fun e => by
            rcases e with e | e
            · exact row_ne hj HVW.out.blR (by rcases ht with e | e <;> simp [e]) e
            · exact row_ne hj HVW.out.fiR (by rcases ht with e | e <;> simp [e]) e)]
          exact hj
        have hE1 := hold _ _ _ (.inl rfl) HWE.out
        have hO1 : OwnF w1 w.heap.size vo i (unO kt T bl) := own_kept' HOW.out (fun j cs _ hj => hold j cs 72 (.inr rfl) hj)
        obtain ⟨D, hD⟩ : ∃ D : ByteArray, (⟨(strS kt T bl fi en).toArray⟩ : ByteArray) = D := ⟨_, rfl⟩
        obtain ⟨v', w2, hr, ho, hgr⟩ := own_obj hO1 HFF.out.size (by omega) nm D
        have z0 : w1.cell? ⟨eb, 0, none⟩ = some (.string nm) := cell_of_row _ _ _ _ 70 _ hE1
        have HRUN : Hid _ := hr
        have hbA : Below w1.heap.size w1 (w1.alloc (.cells #[.string nm, .string D] 72)) := (Below.refl _ _).alloc (Nat.le_refl _) _
        have HV3 : Hid _ := (hV2.below hbA).grow (own_below hO1 hbA) hgr
        have HF3 : Hid (Fr (fun j => j = q ∨ j = f) w w2) := (HFF.out.alloc _).grown hgr (fun y hy => .inr (own_ge hO1 y hy))
        have HO3 : Hid (OwnF w2 w.heap.size v' (i + 1) (unO kt T bl)) := OwnF.congr ho (fun j hj => by
          unfold updF
          by_cases e : j = i
          · subst e
            rw [if_pos rfl]
            show (nm, D) = unO kt T bl j
            unfold unO
            rw [HNM.out, HFI.out, HLN.out, HEN.out, hD]
          · rw [if_neg e])
        obtain ⟨av, cv, hvs⟩ := own_shape hO1
        obtain ⟨av', cv', hvs'⟩ := own_shape ho
        subst hvs hvs'
        rw [hD]
        clear hV2 hF2 hold hE1 hO1 hr ho hgr hbA hD
        go_wp2_with (at_builtin; refine wpList_app rfl (.tmp 34) (.tmp 39) 38 rfl _ _ _ (by simp [Act.eval]) (by simp [Act.eval]) _ HRUN.out ?_)
        refine ⟨⟨i + 1, _, _, _, .slice av' (i + 1) cv', by omega, by go_num, ?_, rfl, rfl, HV3.out, HF3.out, HO3.out⟩, by simp [intOf]; omega⟩
        rw [HL1.out, HFI.out, HLN.out, HEN.out]
      · exact absurd (HOKZ.out x (by omega)) hx3
    · have ei : i = ne := by omega
      subst ei
      clear hV hF hO
      go_wp2_with fail
      go_ret2
      exact ⟨vo, rfl, ⟨_, _, _, HV.out⟩, HF.out, by rw [HNE.out]; exact HO.out⟩
end Go.Proofs.YtadinjaocnlglaaGreatDoor
namespace Go.Proofs.YtadinjaocnlglaaGreatDoor
open Go.RowKit
set_option maxRecDepth 100000
set_option maxHeartbeats 1000000
/-- what a text tells that was written so -/
structure Tld (T : TT) (K M C V v : Nat) (es : List (ByteArray × Nat)) (root lst lv : ByteArray) (l : List UInt8) : Prop where
  ok : T.st.wrong = false
  K : T.L.K = K
  M : T.L.M = M
  C : T.L.C = C
  V : T.L.V = V
  es : T.L.es = es
  num : T.num = v
  root : T.root = root
  lst : T.lst = lst
  lv : T.lv = lv
  ah : Ahd T.st = l
theorem told_enc {t root lst lv : ByteArray} {K M C V v cnt : Nat} {es : List (ByteArray × Nat)} {l : List UInt8} (h : LOk K M C V es) (hr : root.size = 32) (hv : v < V) (hc : nst (K * C) (lenE es) * (K + M) = cnt) (hc2 : cnt ≤ 512) (hlv : lv.size = cnt * 32) (hls : lst.data.toList = lstL K M C V es)
    (ht : t.data.toList = volM.data.toList ++ root.data.toList ++ lst.data.toList ++ vi v ++ lv.data.toList ++ l) : Tld (RS.on t).told K M C V v es root lst lv l := by
  have hw0 : (RS.on t).wrong = false := rfl
  obtain ⟨s0, h0⟩ : ∃ x, (RS.on t).word volM = x := ⟨_, rfl⟩
  obtain ⟨a, ha⟩ : ∃ x, s0.bytes 32 = x := ⟨_, rfl⟩
  obtain ⟨l1, hl⟩ : ∃ x, a.1.list = x := ⟨_, rfl⟩
  obtain ⟨b, hb⟩ : ∃ x, l1.st.num 0 ((l1.V : Int) - 1) = x := ⟨_, rfl⟩
  obtain ⟨c, hcc⟩ : ∃ x, b.1.bytes (l1.cnt * 32) = x := ⟨_, rfl⟩
  have e : (RS.on t).told = if b.1.wrong then ⟨b.1, a.2, l1.st.text.extract a.1.next l1.st.next, l1, b.2, ⟨#[]⟩⟩ else ⟨((if 512 < l1.cnt then b.1.refuse else b.1).bytes (l1.cnt * 32)).1, a.2, l1.st.text.extract a.1.next l1.st.next, l1, b.2, ((if 512 < l1.cnt then b.1.refuse else b.1).bytes (l1.cnt * 32)).2⟩ := by
    rw [← hb, ← hl, ← ha, ← h0]
    rfl
  have ah0 : Ahd (RS.on t) = volM.data.toList ++ (root.data.toList ++ (lst.data.toList ++ (vi v ++ (lv.data.toList ++ l)))) := by
    have : t.data.toList = Ahd (RS.on t) := rfl
    rw [← this, ht]
    simp only [List.append_assoc]
  have r0 := word_enc hw0 ah0
  rw [h0] at r0
  obtain ⟨a1, a2⟩ := bytes_enc r0.ok r0.ah hr
  rw [ha] at a1 a2
  obtain ⟨k1, k2, k3, k4, k5, k6⟩ := list_enc (l := vi v ++ (lv.data.toList ++ l)) a2.ok h (by rw [a2.ah, hls])
  rw [hl] at k1 k2 k3 k4 k5 k6
  obtain ⟨b1, b2⟩ := num_enc (lo := 0) (hi := (l1.V : Int) - 1) k6.ok k6.ah (Nat.zero_le _) (by rw [k4]; omega) (by have := h.v16; omega)
  rw [hb] at b1 b2
  have hcnt : l1.cnt = cnt := by unfold LT.cnt; rw [k1, k2, k3, k5]; exact hc
  obtain ⟨c1, c2⟩ := bytes_enc (n := l1.cnt * 32) b2.ok b2.ah (by rw [hcnt]; exact hlv)
  have hnx : (l1.st.text.extract a.1.next l1.st.next).data.toList = lst.data.toList := by
    have na : Nt a.1 := by rw [← ha, ← h0]; exact bytes_nt (word_nt (Nat.zero_le _) _) _
    have nl : Nt l1.st := by rw [← hl]; exact list_nt na
    have d2 : Ahd a.1 = lst.data.toList ++ Ahd l1.st := by rw [a2.ah, k6.ah]
    have := ahd_len k6.text na (by rw [← k6.text]; exact nl) d2
    rw [ext_list, k6.text, this, show a.1.next + lst.data.toList.length - a.1.next = lst.data.toList.length by omega]
    have d3 : a.1.text.data.toList.drop a.1.next = lst.data.toList ++ Ahd l1.st := d2
    rw [d3, List.take_left]
  rw [e, b2.ok, if_neg (by simp), if_neg (by omega)]
  exact ⟨c2.ok, k1, k2, k3, k4, k5, b1, a1, ba_ext hnx, c1, c2.ah⟩
/-- a volume, as it is written, read -/
structure Wrt (t : ByteArray) (K M C V v : Nat) (es : List (ByteArray × Nat)) (root lst lv ck rest : ByteArray) : Prop where
  tld : Tld (RS.on t).told K M C V v es root lst lv (ck.data.toList ++ rest.data.toList)
  ok : (tCk t).1.wrong = false
  ck : (tCk t).2 = ck
  told : tTold t = volM ++ root ++ lst ++ vint v ++ lv
  rest : tRest t = rest
theorem wrt_enc {t root lst lv ck rest : ByteArray} {K M C V v cnt : Nat} {es : List (ByteArray × Nat)} (h : LOk K M C V es) (hr : root.size = 32) (hv : v < V) (hc : nst (K * C) (lenE es) * (K + M) = cnt) (hc2 : cnt ≤ 512) (hlv : lv.size = cnt * 32) (hls : lst.data.toList = lstL K M C V es) (hk : ck.size = 32)
    (ht : t = volM ++ root ++ lst ++ vint v ++ lv ++ ck ++ rest) : Wrt t K M C V v es root lst lv ck rest := by
  have hl : t.data.toList = volM.data.toList ++ root.data.toList ++ lst.data.toList ++ vi v ++ lv.data.toList ++ (ck.data.toList ++ rest.data.toList) := by
    rw [ht]
    simp only [app_list, vint_list, List.append_assoc]
  have hT := told_enc h hr hv hc hc2 hlv hls hl
  obtain ⟨c1, c2⟩ := bytes_enc hT.ok hT.ah hk
  have hok : (tCk t).1.wrong = false := c2.ok
  obtain ⟨d1, d2⟩ := ck_dec hok
  refine ⟨hT, hok, c1, ?_, ?_⟩
  · apply ba_ext
    rw [d2, hT.root, hT.lst, hT.num, hT.lv]
    simp only [app_list, vint_list]
  · apply ba_ext
    have h3 : (tRest t).data.toList = Ahd (tCk t).1 := by unfold tRest Ahd; rw [ext_end, ck_text]
    rw [h3]
    exact c2.ah
theorem wrt_rd {kt : Nat → Int} {t root lst lv ck rest : ByteArray} {K M C V v cnt : Nat} {es : List (ByteArray × Nat)} (h : Wrt t K M C V v es root lst lv ck rest) (hc : nst (K * C) (lenE es) * (K + M) = cnt) (hs : t.size ≤ 60000) (hk : ck = ofT kt (⟨#[3]⟩ ++ (volM ++ root ++ lst ++ vint v ++ lv))) (hr : root = rootT (ofT kt) lst cnt (pc lv 32)) (hz : rest.size ≤ ((v + 1) * cnt / V - v * cnt / V) * C) : rdE kt t = none := by
  have hcnt : (RS.on t).told.L.cnt = cnt := by unfold LT.cnt; rw [h.tld.K, h.tld.M, h.tld.C, h.tld.es]; exact hc
  unfold rdE
  rw [if_neg (by omega), if_neg (by rw [h.ok]; simp), if_pos (by rw [h.ck, h.told]; exact hk), if_pos (by rw [h.tld.root, h.tld.lst, hcnt, h.tld.lv]; exact hr), if_neg]
  unfold TT.size TT.first
  rw [h.rest, h.tld.num, hcnt, h.tld.V, h.tld.C]
  omega
end Go.Proofs.YtadinjaocnlglaaGreatDoor
namespace Go.Proofs.YtadinjaocnlglaaGreatDoor
open Go.RowKit
set_option maxRecDepth 100000
set_option maxHeartbeats 1000000
theorem whl_get (S : Nat → ByteArray) (k m c i : Nat) (hi : i < k + m) : (whl S k m c)[i]? = some (.string (allS S k c i)) := by
  unfold whl allS
  by_cases h : i < k
  · rw [List.getElem?_append_left (by rw [tV_len]; exact h), if_pos h]
    simp [tV, h]
  · rw [List.getElem?_append_right (by rw [tV_len]; omega), if_neg h, tV_len]
    simp [tV, show i - k < m by omega]
theorem blkV_length (t : ByteArray) (z K M C : Nat) : ∀ n, (blkV t z K M C n).length = n * (K + M)
  | 0 => by simp [blkV]
  | n + 1 => by rw [blkV, List.length_append, blkV_length t z K M C n, whl_len, Nat.succ_mul]
theorem blkV_get (t : ByteArray) (z K M C : Nat) : ∀ n st i, st < n → i < K + M → (blkV t z K M C n)[st * (K + M) + i]? = some (.string (allS (dat t z C st) K C i))
  | 0, st, i, h, _ => by omega
  | n + 1, st, i, h, hi => by
    rw [blkV]
    by_cases e : st = n
    · subst e
      rw [List.getElem?_append_right (by rw [blkV_length]; omega), blkV_length, Nat.add_sub_cancel_left]
      exact whl_get _ _ _ _ _ hi
    · have h1 : (st + 1) * (K + M) ≤ n * (K + M) := Nat.mul_le_mul_right _ (by omega)
      rw [Nat.succ_mul] at h1
      rw [List.getElem?_append_left (by rw [blkV_length]; omega)]
      exact blkV_get t z K M C n st i (by omega) hi
/-- the data of a stripe -/
def daT (K C : Nat) (s : ByteArray) (st : Nat) : Nat → ByteArray := dat (strm (K * C) s) (K * C) C st
theorem bk_at {K M C : Nat} {s : ByteArray} {st i : Nat} (hs : st < nst (K * C) s.size) (hi : i < K + M) : bkT K M C s (st * (K + M) + i) = allS (daT K C s st) K C i := by
  unfold bkT bkS
  rw [blkV_get _ _ _ _ _ _ _ _ hs hi]
  rfl
theorem da_size {K C : Nat} {s : ByteArray} {st : Nat} (hz : 0 < K * C) (hs : st < nst (K * C) s.size) : ∀ i, i < K → (daT K C s st i).size = C := fun i hi => by
  unfold daT dat
  exact pc_size _ C K i (pc_size _ (K * C) _ st (strm_size _ _ hz) hs) hi
/-- a vault's params, entries and stream -/
structure VOk (K M C V cnt : Nat) (es : List (ByteArray × Nat)) (s : ByteArray) : Prop where
  lok : LOk K M C V es
  len : s.size = lenE es
  ct : nst (K * C) s.size * (K + M) = cnt
  c512 : cnt ≤ 512
section
variable {K M C V cnt : Nat} {es : List (ByteArray × Nat)} {s : ByteArray}
theorem VOk.z (h : VOk K M C V cnt es s) : 0 < K * C := Nat.mul_pos h.lok.k1 h.lok.c1
theorem VOk.n (h : VOk K M C V cnt es s) : 0 < K + M := by have := h.lok.k1; omega
theorem VOk.split (h : VOk K M C V cnt es s) {x : Nat} (hx : x < cnt) : x / (K + M) < nst (K * C) s.size ∧ x % (K + M) < K + M ∧ x / (K + M) * (K + M) + x % (K + M) = x := by
  refine ⟨?_, Nat.mod_lt _ h.n, by rw [Nat.mul_comm]; exact Nat.div_add_mod x _⟩
  rw [Nat.div_lt_iff_lt_mul h.n, h.ct]; exact hx
theorem VOk.bk (h : VOk K M C V cnt es s) {x : Nat} (hx : x < cnt) : (bkT K M C s x).size = C := by
  obtain ⟨h1, h2, h3⟩ := h.split hx
  rw [← h3, bk_at h1 h2]
  exact allS_size _ _ _ _ (da_size h.z h1)
end
theorem jL_split (F : Nat → ByteArray) : ∀ n i, i < n → ∃ r, jL F n = jL F i ++ (F i).data.toList ++ r
  | 0, i, h => by omega
  | n + 1, i, h => by
    have e : jL F (n + 1) = jL F n ++ (F n).data.toList := by simp [jL, List.range_succ]
    by_cases ei : i = n
    · subst ei; exact ⟨[], by rw [e, List.append_nil]⟩
    · obtain ⟨r, hr⟩ := jL_split F n i (by omega)
      exact ⟨r ++ (F n).data.toList, by rw [e, hr]; simp only [List.append_assoc]⟩
theorem pc_jT {F : Nat → ByteArray} {c n i : Nat} (hF : ∀ j, j < n → (F j).size = c) (hi : i < n) : pc (jT F n) c i = F i := by
  apply ba_ext
  unfold pc
  rw [ext_list]
  obtain ⟨r, hr⟩ := jL_split F n i hi
  have e : (jT F n).data.toList = jL F n := rfl
  have hl := jL_eq F c i (fun j hj => hF j (by omega))
  rw [e, hr, List.append_assoc, ← hl, List.drop_left, hl, Nat.succ_mul, Nat.add_sub_cancel_left]
  have h2 : (F i).data.toList.length = c := by rw [dl]; exact hF i hi
  rw [← h2, List.take_left]
/-- the list, the root, the leaves, the head and the blocks of a vault's volumes -/
def lsE (K M C V : Nat) (es : List (ByteArray × Nat)) : ByteArray := lstT K M C V es.length (nmE es) (lnE es)
def lfE (kt : Nat → Int) (K M C : Nat) (s : ByteArray) (i : Nat) : ByteArray := leafT (ofT kt) (bkT K M C s i)
def rtE (kt : Nat → Int) (K M C V : Nat) (es : List (ByteArray × Nat)) (s : ByteArray) : ByteArray := rootT (ofT kt) (lsE K M C V es) (nbT K M C s) (lfE kt K M C s)
def lvE (kt : Nat → Int) (K M C : Nat) (s : ByteArray) : ByteArray := jT (lfE kt K M C s) (nbT K M C s)
def toE (kt : Nat → Int) (K M C V : Nat) (es : List (ByteArray × Nat)) (s : ByteArray) (v : Nat) : ByteArray := volM ++ rtE kt K M C V es s ++ lsE K M C V es ++ vint v ++ lvE kt K M C s
def hdE (kt : Nat → Int) (K M C V : Nat) (es : List (ByteArray × Nat)) (s : ByteArray) (v : Nat) : ByteArray := toE kt K M C V es s v ++ ofT kt (⟨#[3]⟩ ++ toE kt K M C V es s v)
def reE (K M C V : Nat) (s : ByteArray) (v : Nat) : ByteArray := jT (fun i => bkT K M C s (v * nbT K M C s / V + i)) ((v + 1) * nbT K M C s / V - v * nbT K M C s / V)
theorem lf_size (kt : Nat → Int) (K M C : Nat) (s : ByteArray) (i : Nat) : (lfE kt K M C s i).size = 32 := ofT_size _ _
theorem lv_size (kt : Nat → Int) (K M C : Nat) (s : ByteArray) : (lvE kt K M C s).size = nbT K M C s * 32 := jT_eq _ 32 _ (fun i _ => lf_size kt K M C s i)
theorem lv_pc (kt : Nat → Int) (K M C : Nat) (s : ByteArray) {i : Nat} (hi : i < nbT K M C s) : pc (lvE kt K M C s) 32 i = lfE kt K M C s i := pc_jT (fun j _ => lf_size kt K M C s j) hi
theorem vi_len (n : Nat) : (vi n).length ≤ 5 := by rw [← vint_list, dl]; exact vint_size n
theorem enL_len : ∀ (es : List (ByteArray × Nat)) (b : ByteArray), EOrd b es → (enL es).length ≤ es.length * 265
  | [], _, _ => by simp [enL]
  | x :: r, b, h => by
    have ih := enL_len r x.1 h.2.2.2
    have h1 := vi_len x.1.size
    have h2 := vi_len x.2
    have h3 := h.2.1
    have h4 : x.1.data.toList.length = x.1.size := dl _
    rw [enL_cons]
    simp only [List.length_append, List.length_cons, Nat.succ_mul]
    omega
theorem ls_len {K M C V : Nat} {es : List (ByteArray × Nat)} (h : LOk K M C V es) : (lsE K M C V es).size ≤ 4300 := by
  have e : (lsE K M C V es).data.toList = lstL K M C V es := lstT_list K M C V es
  rw [← dl, e]
  unfold lstL
  have h0 : vltT.data.toList.length = 4 := rfl
  have h1 := vi_len K; have h2 := vi_len M; have h3 := vi_len C; have h4 := vi_len V; have h5 := vi_len es.length
  have h6 := enL_len es _ h.ord
  have h7 := h.len
  simp only [List.length_append]
  omega
section
variable {K M C V cnt : Nat} {es : List (ByteArray × Nat)} {s : ByteArray}
/-- a volume, whatever lies behind its head -/
theorem VOk.wrt (kt : Nat → Int) (h : VOk K M C V cnt es s) {v : Nat} (hv : v < V) (R : ByteArray) : Wrt (hdE kt K M C V es s v ++ R) K M C V v es (rtE kt K M C V es s) (lsE K M C V es) (lvE kt K M C s) (ofT kt (⟨#[3]⟩ ++ toE kt K M C V es s v)) R := by
  refine wrt_enc h.lok (ofT_size _ _) hv (by rw [← h.len]; exact h.ct) h.c512 ?_ (lstT_list K M C V es) (ofT_size _ _) ?_
  · rw [lv_size]; unfold nbT; rw [h.ct]
  · unfold hdE toE
    rfl
theorem VOk.rd (kt : Nat → Int) (h : VOk K M C V cnt es s) {v : Nat} (hv : v < V) {R : ByteArray} (hR : R.size ≤ ((v + 1) * cnt / V - v * cnt / V) * C) : rdE kt (hdE kt K M C V es s v ++ R) = none := by
  have hnb : nbT K M C s = cnt := h.ct
  have hc : nst (K * C) (lenE es) * (K + M) = cnt := by rw [← h.len]; exact h.ct
  have hen : (v + 1) * cnt / V ≤ cnt := Nat.le_trans (Nat.div_le_div_right (Nat.mul_le_mul_right _ hv)) (by rw [Nat.mul_div_cancel_left _ h.lok.v1]; exact Nat.le_refl _)
  refine wrt_rd (h.wrt kt hv R) hc ?_ rfl ?_ hR
  · have e1 : R.size ≤ 512 * 64 := Nat.le_trans hR (Nat.mul_le_mul (Nat.le_trans (Nat.sub_le _ _) (Nat.le_trans hen h.c512)) h.lok.c64)
    have e2 := ls_len h.lok
    have e3 := vint_size v
    have e4 := lv_size kt K M C s
    have e5 : (rtE kt K M C V es s).size = 32 := ofT_size _ _
    have e6 : (ofT kt (⟨#[3]⟩ ++ toE kt K M C V es s v)).size = 32 := ofT_size _ _
    have e7 : volM.size = 4 := rfl
    have e8 := h.c512
    rw [hnb] at e4
    unfold hdE
    rw [ByteArray.size_append, ByteArray.size_append, e6]
    unfold toE
    simp only [ByteArray.size_append]
    omega
  · show rootT (ofT kt) (lsE K M C V es) (nbT K M C s) (lfE kt K M C s) = _
    rw [hnb]
    unfold rootT
    rw [topT_congr (ofT kt) cnt cnt _ _ (Nat.le_refl _) (fun i hi => (lv_pc kt K M C s (by rw [hnb]; exact hi)).symm)]
theorem VOk.sd (kt : Nat → Int) (h : VOk K M C V cnt es s) {v : Nat} (hv : v < V) {R : ByteArray} (hR : R.size ≤ ((v + 1) * cnt / V - v * cnt / V) * C) {rt : ByteArray} (hrt : rt = ⟨#[]⟩ ∨ rt = rtE kt K M C V es s) : sdE kt rt (hdE kt K M C V es s v ++ R) = none := by
  unfold sdE
  rw [h.rd kt hv hR]
  rw [if_neg (by simp)]
  split
  · rfl
  · rename_i hne
    rw [if_pos]
    rw [(h.wrt kt hv R).tld.root]
    rcases hrt with e | e
    · exact absurd e hne
    · exact e.symm
end
/-- texts that are volumes of the vault, each number once -/
structure Part (kt : Nat → Int) (K M C V cnt : Nat) (es : List (ByteArray × Nat)) (s : ByteArray) (L : Nat → ByteArray) (n : Nat) (Nu : Nat → Nat) (R : Nat → ByteArray) : Prop where
  at_ : ∀ j, j < n → L j = hdE kt K M C V es s (Nu j) ++ R j
  num : ∀ j, j < n → Nu j < V
  fit : ∀ j, j < n → (R j).size ≤ ((Nu j + 1) * cnt / V - Nu j * cnt / V) * C
  ne : ∀ j k, j < n → k < n → j ≠ k → Nu j ≠ Nu k
section
variable {kt : Nat → Int} {K M C V cnt : Nat} {es : List (ByteArray × Nat)} {s : ByteArray} {L : Nat → ByteArray} {n : Nat} {Nu : Nat → Nat} {R : Nat → ByteArray}
theorem Part.wrt (p : Part kt K M C V cnt es s L n Nu R) (h : VOk K M C V cnt es s) {j : Nat} (hj : j < n) : Wrt (L j) K M C V (Nu j) es (rtE kt K M C V es s) (lsE K M C V es) (lvE kt K M C s) (ofT kt (⟨#[3]⟩ ++ toE kt K M C V es s (Nu j))) (R j) := by
  rw [p.at_ j hj]; exact h.wrt kt (p.num j hj) _
theorem Part.tld (p : Part kt K M C V cnt es s L n Nu R) (h : VOk K M C V cnt es s) {j : Nat} (hj : j < n) : Tld (RS.on (L j)).told K M C V (Nu j) es (rtE kt K M C V es s) (lsE K M C V es) (lvE kt K M C s) ((ofT kt (⟨#[3]⟩ ++ toE kt K M C V es s (Nu j))).data.toList ++ (R j).data.toList) := (p.wrt h hj).tld
theorem Part.ct (p : Part kt K M C V cnt es s L n Nu R) (h : VOk K M C V cnt es s) {j : Nat} (hj : j < n) : (tT (L j)).L.cnt = cnt := by
  have t := p.tld h hj
  unfold tT LT.cnt
  rw [t.K, t.M, t.C, t.es, ← h.len]; exact h.ct
theorem Part.one (p : Part kt K M C V cnt es s L n Nu R) (h : VOk K M C V cnt es s) : One kt L n K M C V cnt es (rtE kt K M C V es s) (lsE K M C V es) (lvE kt K M C s) where
  rd := fun j hj => by rw [p.at_ j hj]; exact h.rd kt (p.num j hj) (p.fit j hj)
  K := fun j hj => (p.tld h hj).K
  M := fun j hj => (p.tld h hj).M
  C := fun j hj => (p.tld h hj).C
  V := fun j hj => (p.tld h hj).V
  es := fun j hj => (p.tld h hj).es
  cnt := fun j hj => p.ct h hj
  root := fun j hj => (p.tld h hj).root
  lst := fun j hj => (p.tld h hj).lst
  lv := fun j hj => (p.tld h hj).lv
  ne := fun j k hj hk hne => by
    have e1 : (tT (L j)).num = Nu j := (p.tld h hj).num
    have e2 : (tT (L k)).num = Nu k := (p.tld h hk).num
    rw [e1, e2]; exact p.ne j k hj hk hne
theorem Part.good (p : Part kt K M C V cnt es s L n Nu R) (h : VOk K M C V cnt es s) {rt : ByteArray} (hrt : rt = ⟨#[]⟩ ∨ rt = rtE kt K M C V es s) : GoodL kt rt L n := fun j hj => by
  have o := p.one h
  refine ⟨by rw [p.at_ j hj]; exact h.sd kt (p.num j hj) (p.fit j hj) hrt, ?_, fun k hk => o.ne k j (by omega) hj (by omega)⟩
  exact ⟨(o.root 0 (by omega)).trans (o.root j hj).symm, (o.lst 0 (by omega)).trans (o.lst j hj).symm, (o.lv 0 (by omega)).trans (o.lv j hj).symm⟩
/-- a block that is there -/
theorem Part.bl (p : Part kt K M C V cnt es s L n Nu R) (h : VOk K M C V cnt es s) {j i : Nat} (hj : j < n) (hi : i < (R j).size / C) : blL L n (Nu j * cnt / V + i) = pc (R j) C i := by
  have o := p.one h
  have e1 : (tT (L j)).num = Nu j := (p.tld h hj).num
  have e2 : tRest (L j) = R j := (p.wrt h hj).rest
  have e3 : nB (L j) = (R j).size / C := by unfold nB; rw [e2, o.C j hj]
  have := bl_in n o j i hj (by rw [e3]; exact hi)
  rw [o.first hj, e1, e2] at this
  exact this
/-- a block that isn't -/
theorem Part.no (p : Part kt K M C V cnt es s L n Nu R) (h : VOk K M C V cnt es s) {x : Nat} (hx : ∀ j, j < n → ¬ (Nu j * cnt / V ≤ x ∧ x < Nu j * cnt / V + (R j).size / C)) : blL L n x = ⟨#[]⟩ := by
  have o := p.one h
  refine bl_out n (fun j hj => ?_)
  have e1 : (tT (L j)).num = Nu j := (p.tld h hj).num
  have e2 : tRest (L j) = R j := (p.wrt h hj).rest
  have e3 : nB (L j) = (R j).size / C := by unfold nB; rw [e2, o.C j hj]
  rw [o.first hj, e1, e3]
  exact hx j hj
end
end Go.Proofs.YtadinjaocnlglaaGreatDoor
