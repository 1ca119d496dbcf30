/-
  The walks of Stock.part and Unpack where all stripes are whole.
  The walks of Stock.part and Unpack where all stripes are whole.
  Unpack where all is whole; Params, Root, Objects: of a Stock, and of a Vault.
  A Vault's Unpack where all is whole; its Params, Root, Objects.
  Plain: volumes of which none is left out.
  Plain: where all blocks are good, the volumes are made as they were.
  Plain: what is whole is made as it was, and is whole again.
  One object taken out of a list of one's own.
  Plain: the digest of the empty text, word by word.
  The walks of vault.Parity where nothing is refused, of vault.Digest, and of first.
  A text taken out of a list; names that were read.
  The walks of vaultkeep's sameObjects and mixed.
-/
import Derived.Test.YtadinjaocnlglaaGreatDoorZ36
import Derived.Test.YtadinjaocnlglaaGreatDoorZ35
import Derived.Test.YtadinjaocnlglaaGreatDoorZ20
import Derived.Deep.RegionLaw
import Derived.Test.YtadinjaocnlglaaGreatDoorZ13
import Derived.KernelRfl
import Derived.Test.YtadinjaocnlglaaGreatDoorZ04
import Derived.Test.YtadinjaocnlglaaGreatDoorZ15
namespace Go.Proofs.YtadinjaocnlglaaGreatDoor
open Go.RowKit
set_option maxRecDepth 100000
set_option maxHeartbeats 8000000
/-- the objects that come out -/
def unO (kt : Nat → Int) (T : TT) (bl : Nat → ByteArray) (j : Nat) : Ob := (nmE T.L.es j, ⟨(strS kt T bl (lenE (T.L.es.take j)) (lenE (T.L.es.take j) + lnE T.L.es j)).toArray⟩)
theorem take_len (es : List (ByteArray × Nat)) (j : Nat) (hj : j < es.length) : lenE (es.take (j + 1)) = lenE (es.take j) + lnE es j := by
  rw [lenE_take es j hj]
  unfold lnE
  rw [List.getElem?_eq_getElem hj]
  rfl
theorem VS.grow {kt : Nat → Int} {B k g p q f : Nat} {T : TT} {un : Value} {ul : List Nat} {rd : Nat → Bool} {bl : Nat → ByteArray} {dn : Nat → Bool} {zs : Nat → Nat} {bd : Nat → Value} {w w2 : World} {B0 n : Nat} {v : Value} {xs : List Value} (h : VS kt B k g p q f T un ul rd bl dn zs bd w) (hv : w.ownsRow B0 72 2 v n xs) (hG : w.grownBy w2 v.ownBlock) : VS kt B k g p q f T un ul rd bl dn zs bd w2 :=
  h.kept (fun j cs t ht hj => by
    rw [hG.block j (Array.getElem?_eq_some_iff.1 hj).1 (fun e => by
      obtain ⟨cur, hcur⟩ := own_type hv j e.symm
      exact row_ne hj hcur (by rcases ht with e | e | e | e | e | e | e <;> simp [e]) rfl)]
    exact hj) (fun j hj => by
    have h3 : ∃ cur, w.heap[j]? = some (.cells cur 3 (0, 0)) := by
      rcases hj with e | ⟨s, hs, hd, e⟩
      · exact own_type h.unO j e
      · exact own_type (h.fn s hs hd).2 j e
    obtain ⟨cur, hcur⟩ := h3
    exact hG.block j (Array.getElem?_eq_some_iff.1 hcur).1 (fun e => by
      obtain ⟨cur', hcur'⟩ := own_type hv j e.symm
      exact row_ne hcur hcur' (by decide) rfl))
end Go.Proofs.YtadinjaocnlglaaGreatDoor
namespace Go.Proofs.YtadinjaocnlglaaGreatDoor
open Go.RowKit
set_option maxRecDepth 100000
set_option maxHeartbeats 8000000
theorem own_pair (w : World) (x y : ByteArray) : (w.alloc (.cells #[.string x, .string y] 72)).ownsRow w.heap.size 72 2 (.slice (some ⟨w.heap.size, 0, none⟩) 1 1) 1 [.string x, .string y] :=
  ⟨rfl, .inr ⟨w.heap.size, 1, #[.string x, .string y], rfl, Nat.le_refl _, heap_alloc_new _ _, Nat.le_refl _, by unfold maxLen; omega, rfl, rfl⟩⟩
/-- one object more -/
theorem own_obj {w : World} {B n : Nat} {v : Value} {F : Nat → Ob} (h : OwnF w B v n F) (hB : B ≤ w.heap.size) (hn : n ≤ 1000000) (x y : ByteArray) : ∃ v' w', (Builtin.append_ #[38, 38] 38 #[v, .slice (some ⟨w.heap.size, 0, none⟩) 1 1]).run Tryz.prog (w.alloc (.cells #[.string x, .string y] 72)) = .ok v' w' ∧ OwnF w' B v' (n + 1) (updF F n (x, y)) ∧ (w.alloc (.cells #[.string x, .string y] 72)).grownBy w' v.ownBlock := by
  obtain ⟨i0, hi0, z0, z1, z2⟩ := info_parts info36
  obtain ⟨v', w', hr, ho, hg, _⟩ := app_rows 38 Tryz.underlying38 hi0 z0 z1 z2 rfl (by decide) (h.alloc (.cells #[.string x, .string y] 72)) (own_pair w x y) (by intro u hu; simp at hu; rcases hu with rfl | rfl <;> rfl) (by omega) (by omega) (by simp; omega)
  refine ⟨v', w', hr, ?_, hg⟩
  unfold OwnF
  rw [objF_next]
  exact ho
def PDid (kt : Nat → Int) (B k g p q f : Nat) (T : TT) (un : Value) (ul : List Nat) (rd : Nat → Bool) (bl : Nat → ByteArray) (w : World) (v : Value) (w' : World) : Prop :=
  (∃ (dn' : Nat → Bool) (zs' : Nat → Nat) (bd' : Nat → Value), VS kt B k g p q f T un ul rd bl dn' zs' bd' w') ∧ Fr (fun j => j = q ∨ j = f) w w' ∧ OwnF w' w.heap.size v T.L.es.length (unO kt T bl)
theorem part_ok (kt : Nat → Int) (B k g p q f : Nat) (T : TT) (un : Value) (ul : List Nat) (rd : Nat → Bool) (bl : Nat → ByteArray) (dn : Nat → Bool) (zs : Nat → Nat) (bd : Nat → Value) (w : World) (h : VS kt B k g p q f T un ul rd bl dn zs bd w) (hT : Told1 T) (hle : T.L.es.length ≤ 16 ∧ lenE T.L.es ≤ 4096) (hG : Gd kt w) (hB : B ≤ w.heap.size) (ha : ∀ s, s < T.L.ns → stF kt T bl s = 0) :
    Calls Tryz.prog 121 #[.pointer (some ⟨k, 0, none⟩)] w fun e w' => ∃ v, e = .returned (.tuple #[v, .slice none 0 0]) ∧ PDid kt B k g p q f T un ul rd bl w v w' := by
  have H : Hid _ := h
  have HA : Hid _ := ha
  obtain ⟨aE, kE, num, first, vB, hg, hoE⟩ := h.hd
  have c0 : w.cell? ⟨k, 0, none⟩ = some (.pointer (some ⟨g, 0, none⟩)) := cell_of_row _ _ _ _ 224 _ h.row
  obtain ⟨ne, hne⟩ : ∃ x, T.L.es.length = x := ⟨_, rfl⟩
  have c6 : w.cell? ⟨g, 6, none⟩ = some (.slice aE ne kE) := by rw [← hne]; exact cell_of_row _ _ _ _ 319 _ hg
  have HEC : Hid (∀ (X : World), Fr (fun j => j = q ∨ j = f) w X → ∀ j, j < ne → ∃ b, aE = some ⟨b, 0, none⟩ ∧ b < X.heap.size ∧ X.cell? ⟨b, j * 2, none⟩ = some (.string (nmE T.L.es j)) ∧ X.cell? ⟨b, j * 2 + 1, none⟩ = some (.int .i64 (lnE T.L.es j))) := fun X hX j hj => by
    have ho : X.ownsRow B 70 2 (.slice aE T.L.es.length kE) T.L.es.length (enV T.L.es) := own_kept' hoE (fun y cs _ hy => by
      rw [hX.old y (Array.getElem?_eq_some_iff.1 hy).1 (fun e => by
        rcases e with e | e
        · exact row_ne hy h.blR (by decide) e
        · exact row_ne hy h.fiR (by decide) e)]
      exact hy)
    exact ent_cellsE rfl ho j (by omega)
  have hne16 : ne ≤ 16 := by rw [← hne]; exact hle.1
  have HLE : Hid _ := hle
  have HNE : Hid _ := hne
  have HLEN : Hid (∀ j, j < ne → lenE (T.L.es.take (j + 1)) = lenE (T.L.es.take j) + lnE T.L.es j ∧ lenE (T.L.es.take (j + 1)) ≤ lenE T.L.es) := fun j hj => ⟨take_len _ _ (by omega), lenE_take_le _ _⟩
  have HOKZ : Hid (∀ x, x < lenE T.L.es → stF kt T bl (x / (T.L.K * T.L.C)) = 0) := fun x hx => by
    refine ha _ ?_
    have hz1 : 0 < T.L.K * T.L.C := Nat.mul_pos hT.k1 hT.c1
    show x / (T.L.K * T.L.C) < nst (T.L.K * T.L.C) (lenE T.L.es)
    unfold nst
    rw [Nat.div_lt_iff_lt_mul hz1]
    have h2 := Nat.div_add_mod (lenE T.L.es + T.L.K * T.L.C - 1) (T.L.K * T.L.C)
    have h3 := Nat.mod_lt (lenE T.L.es + T.L.K * T.L.C - 1) hz1
    rw [Nat.mul_comm] at h2
    omega
  clear h hg hoE ha hne
  go_enter Tryz.func121, Tryz.ntmps121
  go_wp2_with fail
  clear c0 c6
  go_loopw [18, 4, 2, 3] (fun iv fv ov lv wr => ∃ (i : Nat) (dn' : Nat → Bool) (zs' : Nat → Nat) (bd' : Nat → Value) (vo : Value), i ≤ ne ∧ iv = .int .i64 i ∧ fv = .int .i64 (lenE (T.L.es.take i)) ∧ vo = ov ∧ lv = .slice none 0 0 ∧ VS kt B k g p q f T un ul rd bl dn' zs' bd' wr ∧ Fr (fun j => j = q ∨ j = f) w wr ∧ OwnF wr w.heap.size vo i (unO kt T bl)) (fun iv _ _ _ _ => ne - (intOf iv).toNat)
  case atStart => exact ⟨0, dn, zs, bd, _, by omega, rfl, by simp [lenE], rfl, rfl, H.out, Fr.refl _ _, ⟨by simp [objF], .inl ⟨rfl, rfl⟩⟩⟩
  case round =>
    obtain ⟨i, dn1, zs1, bd1, vo, hi, rfl, rfl, rfl, rfl, hV, hF, hO⟩ := hrel
    have HV : Hid _ := hV
    have HF : Hid _ := hF
    have HO : Hid (OwnF wr w.heap.size vo i (unO kt T bl)) := hO
    by_cases hlt : i < ne
    · have hin : (i : Int) < (ne : Int) := by omega
      obtain ⟨be, hbe, hbl, y0, y1⟩ := HEC.out wr hF i hlt
      subst hbe
      obtain ⟨hl1, hl2⟩ := HLEN.out i hlt
      have hl3 := HLE.out.2
      obtain ⟨fi, hfi⟩ : ∃ x, lenE (T.L.es.take i) = x := ⟨_, rfl⟩
      obtain ⟨ln, hln⟩ : ∃ x, lnE T.L.es i = x := ⟨_, rfl⟩
      obtain ⟨nm, hnm⟩ : ∃ x, nmE T.L.es i = x := ⟨_, rfl⟩
      rw [hl1] at hl2
      rw [hfi, hln] at hl2
      rw [hln] at y1
      rw [hnm] at y0
      rw [hfi]
      obtain ⟨W, hW⟩ : ∃ W, wr.alloc (.cells #[.string nm, .int .i64 ln] 70) = W := ⟨_, rfl⟩
      have hbW : Below wr.heap.size wr W := by rw [← hW]; exact (Below.refl _ _).alloc (Nat.le_refl _) _
      obtain ⟨eb, heb⟩ : ∃ x, wr.heap.size = x := ⟨_, rfl⟩
      have hWe : W.heap[eb]? = some (.cells #[.string nm, .int .i64 ln] 70 (0, 0)) := by rw [← hW, ← heb]; exact heap_alloc_new _ _
      have HWE : Hid _ := hWe
      have hVW := hV.below hbW
      have hFW := hF.thenBelow hbW
      have HDA : Hid _ := data_any kt B k g p q f fi (fi + ln) T un ul rd bl dn1 zs1 bd1 W hVW hT HLE.out (H.out.gd hG hFW) (Nat.le_trans hB hFW.size) (by omega) (by omega)
      have HVW : Hid _ := hVW
      have HFW : Hid _ := hFW
      have HOW : Hid (OwnF W w.heap.size vo i (unO kt T bl)) := own_below hO hbW
      have hsum : (fi : Int) + (ln : Int) = ((fi + ln : Nat) : Int) := by simp
      obtain ⟨en, hen⟩ : ∃ x, fi + ln = x := ⟨_, rfl⟩
      rw [hen] at HDA hsum hl2
      have HFI : Hid _ := hfi
      have HLN : Hid _ := hln
      have HNM : Hid _ := hnm
      have HEN : Hid _ := hen
      have HL1 : Hid _ := hl1
      have hi6 : en ≤ 4096 := by omega
      have HHW : Hid _ := hW
      have HEB : Hid _ := heb
      clear hV hF hO hfi hln hnm hbW hWe hVW hFW hen hl1 hW heb
      go_wp2_with fail
      rw [HHW.out, HEB.out]
      refine Calls.mono HDA.out ?_
      rintro e w1 ⟨⟨dn2, zs2, bd2, hV2⟩, hF2, ⟨_, rfl⟩ | ⟨⟨x, hx1, hx2, hx3⟩, _⟩⟩
      · have HV2 : Hid _ := hV2
        have HFF : Hid _ := HFW.out.trans' hF2
        have hold : ∀ (j : Nat) (cs : Array Value) (t : TypeId), t = 70 ∨ t = 72 → W.heap[j]? = some (.cells cs t (0, 0)) → w1.heap[j]? = some (.cells cs t (0, 0)) := fun j cs t ht hj => by
          rw [hF2.old j (Array.getElem?_eq_some_iff.1 hj).1 (fun e => by
            rcases e with e | e
            · exact row_ne hj HVW.out.blR (by rcases ht with e | e <;> simp [e]) e
            · exact row_ne hj HVW.out.fiR (by rcases ht with e | e <;> simp [e]) e)]
          exact hj
        have hE1 := hold _ _ _ (.inl rfl) HWE.out
        have hO1 : OwnF w1 w.heap.size vo i (unO kt T bl) := own_kept' HOW.out (fun j cs _ hj => hold j cs 72 (.inr rfl) hj)
        obtain ⟨D, hD⟩ : ∃ D : ByteArray, (⟨(strS kt T bl fi en).toArray⟩ : ByteArray) = D := ⟨_, rfl⟩
        obtain ⟨v', w2, hr, ho, hgr⟩ := own_obj hO1 HFF.out.size (by omega) nm D
        have z0 : w1.cell? ⟨eb, 0, none⟩ = some (.string nm) := cell_of_row _ _ _ _ 70 _ hE1
        have HRUN : Hid _ := hr
        have hbA : Below w1.heap.size w1 (w1.alloc (.cells #[.string nm, .string D] 72)) := (Below.refl _ _).alloc (Nat.le_refl _) _
        have HV3 : Hid _ := (hV2.below hbA).grow (own_below hO1 hbA) hgr
        have HF3 : Hid (Fr (fun j => j = q ∨ j = f) w w2) := (HFF.out.alloc _).grown hgr (fun y hy => .inr (own_ge hO1 y hy))
        have HO3 : Hid (OwnF w2 w.heap.size v' (i + 1) (unO kt T bl)) := OwnF.congr ho (fun j hj => by
          unfold updF
          by_cases e : j = i
          · subst e
            rw [if_pos rfl]
            show (nm, D) = unO kt T bl j
            unfold unO
            rw [HNM.out, HFI.out, HLN.out, HEN.out, hD]
          · rw [if_neg e])
        obtain ⟨av, cv, hvs⟩ := own_shape hO1
        obtain ⟨av', cv', hvs'⟩ := own_shape ho
        subst hvs hvs'
        rw [hD]
        clear hV2 hF2 hold hE1 hO1 hr ho hgr hbA hD
        go_wp2_with (at_builtin; refine wpList_app rfl (.tmp 34) (.tmp 39) 38 rfl _ _ _ (by simp [Act.eval]) (by simp [Act.eval]) _ HRUN.out ?_)
        refine ⟨⟨i + 1, _, _, _, .slice av' (i + 1) cv', by omega, by go_num, ?_, rfl, rfl, HV3.out, HF3.out, HO3.out⟩, by simp [intOf]; omega⟩
        rw [HL1.out, HFI.out, HLN.out, HEN.out]
      · exact absurd (HOKZ.out x (by omega)) hx3
    · have ei : i = ne := by omega
      subst ei
      clear hV hF hO
      go_wp2_with fail
      go_ret2
      exact ⟨vo, rfl, ⟨_, _, _, HV.out⟩, HF.out, by rw [HNE.out]; exact HO.out⟩
end Go.Proofs.YtadinjaocnlglaaGreatDoor
namespace Go.Proofs.YtadinjaocnlglaaGreatDoor
open Go.RowKit Go.MuLone
set_option maxRecDepth 100000
set_option maxHeartbeats 4000000
theorem unpack_ok (kt : Nat → Int) (B k g p q f : Nat) (T : TT) (un : Value) (ul : List Nat) (rd : Nat → Bool) (bl : Nat → ByteArray) (dn : Nat → Bool) (zs : Nat → Nat) (bd : Nat → Value) (w : World) (h : VS kt B k g p q f T un ul rd bl dn zs bd w) (hT : Told1 T) (hle : T.L.es.length ≤ 16 ∧ lenE T.L.es ≤ 4096) (hG : Gd kt w) (hB : B ≤ w.heap.size) (ha : ∀ s, s < T.L.ns → stF kt T bl s = 0) :
    Calls Tryz.prog 73 #[.pointer (some ⟨k, 0, none⟩)] w fun e w' => ∃ v, e = .returned (.tuple #[v, .nilIface]) ∧ PDid kt B k g p q f T un ul rd bl w v w' := by
  have HP : Hid _ := part_ok kt B k g p q f T un ul rd bl dn zs bd w h hT hle hG hB ha
  clear h hT hle hG ha
  go_enter Tryz.func73, Tryz.ntmps73
  go_wp2_with fail
  refine Calls.mono HP.out ?_
  rintro e w1 ⟨v, rfl, hP⟩
  have HD : Hid _ := hP
  clear hP
  go_wp2_with fail
  go_ret2
  exact ⟨v, rfl, HD.out⟩
end Go.Proofs.YtadinjaocnlglaaGreatDoor
namespace Go.Proofs.YtadinjaocnlglaaGreatDoor
open Go.RowKit Go.MuLone
set_option maxRecDepth 100000
set_option maxHeartbeats 4000000
/-- a Vault whose Stock is so -/
def VK (kt : Nat → Int) (B v k g p q f : Nat) (T : TT) (un : Value) (ul : List Nat) (rd : Nat → Bool) (bl : Nat → ByteArray) (w : World) : Prop := VL v k 0 w ∧ ∃ (dn : Nat → Bool) (zs : Nat → Nat) (bd : Nat → Value), VS kt B k g p q f T un ul rd bl dn zs bd w
theorem vunpack_ok (kt : Nat → Int) (B v k g p q f : Nat) (T : TT) (un : Value) (ul : List Nat) (rd : Nat → Bool) (bl : Nat → ByteArray) (w : World) (h : VK kt B v k g p q f T un ul rd bl w) (hT : Told1 T) (hle : T.L.es.length ≤ 16 ∧ lenE T.L.es ≤ 4096) (hG : Gd kt w) (hB : B ≤ w.heap.size) (h2 : v ≠ 2) (ha : ∀ s, s < T.L.ns → stF kt T bl s = 0) :
    Calls Tryz.prog 27 #[.pointer (some ⟨v, 0, none⟩)] w fun e w' => ∃ vo, e = .returned (.tuple #[vo, .nilIface]) ∧ VK kt B v k g p q f T un ul rd bl w' ∧ Fr (fun j => j = q ∨ j = f ∨ j = v) w w' ∧ OwnF w' w.heap.size vo T.L.es.length (unO kt T bl) := by
  obtain ⟨hv, dn, zs, bd, h⟩ := h
  have hvl : v < w.heap.size := (Array.getElem?_eq_some_iff.1 hv).1
  have hF0 : Fr (fun j => j = v) w (w.setCell ⟨v, 0, none⟩ (.int .i32 1)) := (Fr.refl (fun j => j = v) w).set (.inl rfl) _ _
  refine Calls.mono (lk_unpack v k w (fun val w' => ∃ vo, val = .tuple #[vo, .nilIface] ∧ VK kt B v k g p q f T un ul rd bl w' ∧ Fr (fun j => j = q ∨ j = f ∨ j = v) w w' ∧ OwnF w' w.heap.size vo T.L.es.length (unO kt T bl)) hv ?_) ?_
  · refine Calls.mono (unpack_ok kt B k g p q f T un ul rd bl dn zs bd _ (h.set hv (.inr rfl) _ _) hT hle (hG.fr hF0 (fun e => h2 e.symm)) (Nat.le_trans hB hF0.size) ha) ?_
    rintro e w' ⟨vo, rfl, ⟨dn', zs', bd', hS⟩, hF, hO⟩
    have hv1 : VL v k 1 w' := by
      have h1 := VL.one hv
      have hS1 := h.set hv (.inr rfl) 0 (.int .i32 1)
      unfold VL at h1 ⊢
      rw [hF.old v (Array.getElem?_eq_some_iff.1 h1).1 (fun e => by
        rcases e with e | e
        · exact row_ne h1 hS1.blR (by decide) e
        · exact row_ne h1 hS1.fiR (by decide) e)]
      exact h1
    refine ⟨_, _, rfl, hv1, vo, rfl, ⟨hv1.zero, dn', zs', bd', hS.set hv1 (.inr rfl) _ _⟩, ?_, ?_⟩
    · exact ((hF0.mono (T := fun j => j = q ∨ j = f ∨ j = v) (fun j _ e => .inr (.inr e))).trans' (hF.mono (fun j _ e => by rcases e with e | e; exact .inl e; exact .inr (.inl e)))).set (.inl (.inr (.inr rfl))) _ _
    · have e1 : (w.setCell ⟨v, 0, none⟩ (.int .i32 1)).heap.size = w.heap.size := by simp [World.setCell]
      rw [e1] at hO
      exact own_setB hO hv1 (by decide) _
  · rintro e w' ⟨a, b, rfl, vo, hval, h1, h2, h3⟩
    exact ⟨vo, by rw [hval], h1, h2, h3⟩
end Go.Proofs.YtadinjaocnlglaaGreatDoor
namespace Go.Proofs.YtadinjaocnlglaaGreatDoor
open Go.RowKit
set_option maxRecDepth 100000
set_option maxHeartbeats 1000000
/-- what a text tells -/
def tT (t : ByteArray) : TT := (RS.on t).told
def nB (t : ByteArray) : Nat := (tRest t).size / (tT t).L.C
def rdL (L : Nat → ByteArray) : Nat → Nat → Bool
  | 0 => noR
  | i + 1 => updB (rdL L i) (tT (L i)).num true
def blL (L : Nat → ByteArray) : Nat → Nat → ByteArray
  | 0 => noT
  | i + 1 => laid (blL L i) (tT (L i)).first (nB (L i)) (pc (tRest (L i)) (tT (L i)).L.C)
/-- what Open has when the first i texts were all taken -/
def stO (L : Nat → ByteArray) (i : Nat) : OS := ⟨[], if i = 0 then none else some (L 0), rdL L i, blL L i⟩
def Same3 (a b : ByteArray) : Prop := (tT a).root = (tT b).root ∧ (tT a).lst = (tT b).lst ∧ (tT a).lv = (tT b).lv
/-- volumes of one vault, each number once -/
def GoodL (kt : Nat → Int) (rt : ByteArray) (L : Nat → ByteArray) (n : Nat) : Prop := ∀ j, j < n → sdE kt rt (L j) = none ∧ Same3 (L 0) (L j) ∧ ∀ k, k < j → (tT (L k)).num ≠ (tT (L j)).num
theorem rdL_iff (L : Nat → ByteArray) : ∀ i v, rdL L i v = true ↔ ∃ j, j < i ∧ (tT (L j)).num = v
  | 0, v => by
    constructor
    · intro h; cases h
    · rintro ⟨j, hj, _⟩; omega
  | i + 1, v => by
    rw [rdL]
    unfold updB
    by_cases e : v = (tT (L i)).num
    · rw [if_pos e]
      exact ⟨fun _ => ⟨i, by omega, e.symm⟩, fun _ => rfl⟩
    · rw [if_neg e, rdL_iff L i v]
      constructor
      · rintro ⟨j, hj, h⟩; exact ⟨j, by omega, h⟩
      · rintro ⟨j, hj, h⟩
        by_cases ej : j = i
        · subst ej; exact absurd h.symm e
        · exact ⟨j, by omega, h⟩
theorem stO_ok {kt : Nat → Int} {rt : ByteArray} {L : Nat → ByteArray} {i : Nat} (hs : sdE kt rt (L i) = none) (hc : i = 0 ∨ (Same3 (L 0) (L i) ∧ rdL L i (tT (L i)).num = false)) : (stO L i).step kt rt i (L i) = .ok (stO L (i + 1)) := by
  unfold OS.step
  rw [if_neg (by rw [hs]; simp)]
  by_cases e : i = 0
  · subst e
    rfl
  · have hh : (stO L i).hd = some (L 0) := by unfold stO; rw [if_neg e]
    rw [hh]
    rcases hc with h0 | ⟨hS, hr⟩
    · exact absurd h0 e
    · show (if (tT (L 0)).root = (tT (L i)).root ∧ (tT (L 0)).lst = (tT (L i)).lst ∧ (tT (L 0)).lv = (tT (L i)).lv then (if rdL L i (tT (L i)).num then Except.error (13, i) else .ok ((stO L i).take (L i))) else .error (12, i)) = _
      rw [if_pos (show (tT (L 0)).root = (tT (L i)).root ∧ (tT (L 0)).lst = (tT (L i)).lst ∧ (tT (L 0)).lv = (tT (L i)).lv from hS), hr, if_neg (by simp)]
      congr 1
      unfold stO OS.take
      rw [if_neg e]
      rfl
theorem stO_bad {kt : Nat → Int} {rt : ByteArray} {L : Nat → ByteArray} {i : Nat} {s : OS} (hs : sdE kt rt (L i) = none) (h : (stO L i).step kt rt i (L i) = .ok s) : i = 0 ∨ (Same3 (L 0) (L i) ∧ rdL L i (tT (L i)).num = false) := by
  by_cases e : i = 0
  · exact .inl e
  · refine .inr ?_
    unfold OS.step at h
    rw [if_neg (by rw [hs]; simp)] at h
    have hh : (stO L i).hd = some (L 0) := by unfold stO; rw [if_neg e]
    rw [hh] at h
    have h' : (if (tT (L 0)).root = (tT (L i)).root ∧ (tT (L 0)).lst = (tT (L i)).lst ∧ (tT (L 0)).lv = (tT (L i)).lv then (if rdL L i (tT (L i)).num then Except.error (13, i) else .ok ((stO L i).take (L i))) else .error (12, i)) = Except.ok s := h
    split at h'
    · rename_i hS
      split at h'
      · cases h'
      · rename_i hr
        exact ⟨hS, by simpa using hr⟩
    · cases h'
theorem good_run {kt : Nat → Int} {rt : ByteArray} {L : Nat → ByteArray} : ∀ n, GoodL kt rt L n → OS.run kt rt 0 (texL L n) OS.new = .ok (stO L n)
  | 0, _ => rfl
  | n + 1, h => by
    have ih := good_run n (fun j hj => h j (by omega))
    have h1 := run_snoc kt rt (L n) _ 0 _ _ ih
    rw [texL_len, Nat.zero_add, ← texL_succ] at h1
    rw [h1]
    obtain ⟨hs, hS, hk⟩ := h n (by omega)
    refine stO_ok hs (.inr ⟨hS, ?_⟩)
    cases hr : rdL L n (tT (L n)).num with
    | false => rfl
    | true =>
      obtain ⟨j, hj, e⟩ := (rdL_iff L n _).1 hr
      exact absurd e (hk j hj)
theorem step_unm {kt : Nat → Int} {rt t : ByteArray} {i : Nat} {s s1 : OS} (h : s.step kt rt i t = .ok s1) (hu : s1.un = []) : s.un = [] ∧ sdE kt rt t = none := by
  unfold OS.step at h
  split at h
  · cases h
    simp at hu
  · rename_i hs
    have hs' : sdE kt rt t = none := by simpa using hs
    refine ⟨?_, hs'⟩
    split at h
    · cases h; exact hu
    · split at h
      · split at h
        · cases h
        · cases h; exact hu
      · cases h
theorem run_split {kt : Nat → Int} {rt : ByteArray} {L : Nat → ByteArray} {n : Nat} {s : OS} (h : OS.run kt rt 0 (texL L (n + 1)) OS.new = .ok s) : ∃ s', OS.run kt rt 0 (texL L n) OS.new = .ok s' ∧ s'.step kt rt n (L n) = .ok s := by
  cases hr : OS.run kt rt 0 (texL L n) OS.new with
  | error e =>
    have := run_err kt rt [L n] _ 0 _ _ hr
    rw [← texL_succ, h] at this
    cases this
  | ok s' =>
    have h1 := run_snoc kt rt (L n) _ 0 _ _ hr
    rw [texL_len, Nat.zero_add, ← texL_succ, h] at h1
    exact ⟨s', rfl, h1.symm⟩
theorem run_good {kt : Nat → Int} {rt : ByteArray} {L : Nat → ByteArray} : ∀ n s, OS.run kt rt 0 (texL L n) OS.new = .ok s → s.un = [] → GoodL kt rt L n ∧ s = stO L n
  | 0, s, h, _ => by
    cases h
    exact ⟨fun j hj => by omega, rfl⟩
  | n + 1, s, h, hu => by
    obtain ⟨s', h1, h2⟩ := run_split h
    obtain ⟨hu', hs⟩ := step_unm h2 hu
    obtain ⟨hG, rfl⟩ := run_good n s' h1 hu'
    have hc := stO_bad hs h2
    rw [stO_ok hs hc] at h2
    cases h2
    · refine ⟨fun j hj => ?_, rfl⟩
      by_cases ej : j = n
      · subst ej
        refine ⟨hs, ?_, fun k hk e => ?_⟩
        · rcases hc with e0 | ⟨hS, _⟩
          · subst e0; exact ⟨rfl, rfl, rfl⟩
          · exact hS
        · rcases hc with e0 | ⟨_, hr⟩
          · omega
          · have := (rdL_iff L j _).2 ⟨k, hk, e⟩
            rw [hr] at this; cases this
      · exact hG j (by omega)
/-- the head of one vault -/
theorem same3_L {kt : Nat → Int} {rt a b : ByteArray} (ha : sdE kt rt a = none) (hb : sdE kt rt b = none) (h : Same3 a b) : LEq (tT a).L (tT b).L ∧ rdE kt a = none ∧ rdE kt b = none := by
  have f : ∀ t, sdE kt rt t = none → rdE kt t = none := fun t ht => by
    unfold sdE at ht
    split at ht
    · exact ht
    · rename_i hs; simpa using hs
  have h1 := f a ha
  have h2 := f b hb
  exact ⟨same_list (bytes_ok (rd_none h1).2.1) (bytes_ok (rd_none h2).2.1) h.2.1, h1, h2⟩
end Go.Proofs.YtadinjaocnlglaaGreatDoor
namespace Go.Proofs.YtadinjaocnlglaaGreatDoor
open Go.RowKit
set_option maxRecDepth 100000
set_option maxHeartbeats 1000000
theorem jL_pc (t : ByteArray) (c : Nat) : ∀ k, jL (pc t c) k = t.data.toList.take (k * c)
  | 0 => by simp [jL]
  | k + 1 => by
    have e : jL (pc t c) (k + 1) = jL (pc t c) k ++ (pc t c k).data.toList := by simp [jL, List.range_succ]
    rw [e, jL_pc t c k]
    unfold pc
    rw [ext_list, Nat.succ_mul, Nat.add_sub_cancel_left, List.take_add]
theorem jT_pc (t : ByteArray) (c k : Nat) (h : t.size = k * c) : jT (pc t c) k = t := by
  apply ba_ext
  show jL (pc t c) k = _
  rw [jL_pc, List.take_of_length_le]
  rw [dl]; omega
theorem jT_congr {F G : Nat → ByteArray} {n : Nat} (h : ∀ i, i < n → F i = G i) : jT F n = jT G n := by
  apply ba_ext
  show jL F n = jL G n
  unfold jL
  congr 1
  apply List.map_congr_left
  intro i hi
  rw [h i (List.mem_range.1 hi)]
/-- where a block lies -/
theorem in_range (cnt V x : Nat) : ∀ u, x < u * cnt / V → ∃ v, v < u ∧ v * cnt / V ≤ x ∧ x < (v + 1) * cnt / V
  | 0, h => by simp at h
  | u + 1, h => by
    by_cases hx : x < u * cnt / V
    · obtain ⟨v, h1, h2, h3⟩ := in_range cnt V x u hx
      exact ⟨v, by omega, h2, h3⟩
    · exact ⟨u, by omega, by omega, h⟩
theorem rng_mono {cnt V u v : Nat} (h : u < v) : (u + 1) * cnt / V ≤ v * cnt / V := Nat.div_le_div_right (Nat.mul_le_mul_right _ h)
theorem rng_fit {kt : Nat → Int} {t : ByteArray} (h : rdE kt t = none) : (tT t).num < (tT t).L.V ∧ nB t ≤ ((tT t).num + 1) * (tT t).L.cnt / (tT t).L.V - (tT t).first ∧ (tRest t).size ≤ (((tT t).num + 1) * (tT t).L.cnt / (tT t).L.V - (tT t).first) * (tT t).L.C := by
  obtain ⟨_, h1, h2⟩ := rd_none h
  have hT : Told1 (tT t) := ck_ok h1
  have h3 : (tRest t).size ≤ (((tT t).num + 1) * (tT t).L.cnt / (tT t).L.V - (tT t).first) * (tT t).L.C := h2
  refine ⟨hT.num, ?_, h3⟩
  unfold nB
  exact Nat.le_trans (Nat.div_le_div_right h3) (by rw [Nat.mul_div_cancel _ hT.c1]; exact Nat.le_refl _)
/-- volumes of one vault share its params -/
structure One (kt : Nat → Int) (L : Nat → ByteArray) (n K M C V cnt : Nat) (es : List (ByteArray × Nat)) (root lst lv : ByteArray) : Prop where
  rd : ∀ j, j < n → rdE kt (L j) = none
  K : ∀ j, j < n → (tT (L j)).L.K = K
  M : ∀ j, j < n → (tT (L j)).L.M = M
  C : ∀ j, j < n → (tT (L j)).L.C = C
  V : ∀ j, j < n → (tT (L j)).L.V = V
  es : ∀ j, j < n → (tT (L j)).L.es = es
  cnt : ∀ j, j < n → (tT (L j)).L.cnt = cnt
  root : ∀ j, j < n → (tT (L j)).root = root
  lst : ∀ j, j < n → (tT (L j)).lst = lst
  lv : ∀ j, j < n → (tT (L j)).lv = lv
  ne : ∀ j k, j < n → k < n → j ≠ k → (tT (L j)).num ≠ (tT (L k)).num
theorem One.first {kt : Nat → Int} {L : Nat → ByteArray} {n K M C V cnt : Nat} {es : List (ByteArray × Nat)} {root lst lv : ByteArray} (h : One kt L n K M C V cnt es root lst lv) {j : Nat} (hj : j < n) : (tT (L j)).first = (tT (L j)).num * cnt / V := by
  unfold TT.first; rw [h.cnt j hj, h.V j hj]
theorem One.apart {kt : Nat → Int} {L : Nat → ByteArray} {n K M C V cnt : Nat} {es : List (ByteArray × Nat)} {root lst lv : ByteArray} (h : One kt L n K M C V cnt es root lst lv) {j k x : Nat} (hj : j < n) (hk : k < n) (hjk : j ≠ k) (h1 : (tT (L j)).num * cnt / V ≤ x) (h2 : x < ((tT (L j)).num + 1) * cnt / V) : ¬ ((tT (L k)).first ≤ x ∧ x < (tT (L k)).first + nB (L k)) := by
  rintro ⟨h3, h4⟩
  have hf := rng_fit (h.rd k hk)
  rw [h.first hk] at h3 h4
  rw [h.first hk, h.cnt k hk, h.V k hk] at hf
  have hle : (tT (L k)).num * cnt / V ≤ ((tT (L k)).num + 1) * cnt / V := Nat.div_le_div_right (Nat.mul_le_mul_right _ (by omega))
  have hne := h.ne j k hj hk hjk
  rcases Nat.lt_or_ge (tT (L j)).num (tT (L k)).num with hlt | hge
  · have := rng_mono (cnt := cnt) (V := V) hlt
    omega
  · have := rng_mono (cnt := cnt) (V := V) (show (tT (L k)).num < (tT (L j)).num by omega)
    omega
theorem One.less {kt : Nat → Int} {L : Nat → ByteArray} {n m K M C V cnt : Nat} {es : List (ByteArray × Nat)} {root lst lv : ByteArray} (h : One kt L n K M C V cnt es root lst lv) (hm : m ≤ n) : One kt L m K M C V cnt es root lst lv :=
  ⟨fun j hj => h.rd j (by omega), fun j hj => h.K j (by omega), fun j hj => h.M j (by omega), fun j hj => h.C j (by omega), fun j hj => h.V j (by omega), fun j hj => h.es j (by omega), fun j hj => h.cnt j (by omega), fun j hj => h.root j (by omega), fun j hj => h.lst j (by omega), fun j hj => h.lv j (by omega), fun j k hj hk => h.ne j k (by omega) (by omega)⟩
theorem bl_in {kt : Nat → Int} {L : Nat → ByteArray} {K M C V cnt : Nat} {es : List (ByteArray × Nat)} {root lst lv : ByteArray} : ∀ n, One kt L n K M C V cnt es root lst lv → ∀ j i, j < n → i < nB (L j) → blL L n ((tT (L j)).first + i) = pc (tRest (L j)) C i
  | 0, _, j, _, hj, _ => by omega
  | n + 1, h, j, i, hj, hi => by
    rw [blL]
    unfold laid
    by_cases e : j = n
    · subst e
      rw [if_pos ⟨by omega, by omega⟩, Nat.add_sub_cancel_left, h.C j hj]
    · have hf := rng_fit (h.rd j hj)
      rw [h.first hj, h.cnt j hj, h.V j hj] at hf
      rw [if_neg (h.apart hj (by omega) e (by rw [h.first hj]; omega) (by rw [h.first hj]; omega))]
      exact bl_in n (h.less (by omega)) j i (by omega) hi
end Go.Proofs.YtadinjaocnlglaaGreatDoor
namespace Go.Proofs.YtadinjaocnlglaaGreatDoor
open Go.RowKit
set_option maxRecDepth 100000
set_option maxHeartbeats 1000000
theorem reV_congr {kt : Nat → Int} {T : TT} {A B : Nat → ByteArray} (h : ∀ x, x < T.L.cnt → A x = B x) (hV : 1 ≤ T.L.V) {v : Nat} (hv : v < T.L.V) : reV kt T A v = reV kt T B v := by
  have hl : ∀ i, i < T.L.cnt → leafT (ofT kt) (A i) = leafT (ofT kt) (B i) := fun i hi => by rw [h i hi]
  have h1 : rootT (ofT kt) T.ls T.L.cnt (fun i => leafT (ofT kt) (A i)) = rootT (ofT kt) T.ls T.L.cnt (fun i => leafT (ofT kt) (B i)) := by
    unfold rootT
    rw [topT_congr (ofT kt) T.L.cnt T.L.cnt _ _ (Nat.le_refl _) hl]
  have h2 : jT (fun i => leafT (ofT kt) (A i)) T.L.cnt = jT (fun i => leafT (ofT kt) (B i)) T.L.cnt := jT_congr hl
  have h3 : jT (fun i => A (v * T.L.cnt / T.L.V + i)) ((v + 1) * T.L.cnt / T.L.V - v * T.L.cnt / T.L.V) = jT (fun i => B (v * T.L.cnt / T.L.V + i)) ((v + 1) * T.L.cnt / T.L.V - v * T.L.cnt / T.L.V) := jT_congr (fun i hi => by
    refine h _ ?_
    have : (v + 1) * T.L.cnt / T.L.V ≤ T.L.cnt := Nat.le_trans (Nat.div_le_div_right (Nat.mul_le_mul_right _ hv)) (by rw [Nat.mul_div_cancel_left _ hV]; exact Nat.le_refl _)
    omega)
  unfold reV volT toldT
  rw [h1, h2, h3]
end Go.Proofs.YtadinjaocnlglaaGreatDoor
namespace Go.Proofs.YtadinjaocnlglaaGreatDoor
open Go.RowKit
set_option maxRecDepth 100000
set_option maxHeartbeats 1000000
theorem setCells_row (g : Nat) (t : TypeId) (fr : Nat × Nat) : ∀ (vs : List Value) (o : Nat) (w : World) (cur : Array Value), w.heap[g]? = some (.cells cur t fr) →
    ∃ cur', (w.setCells g o vs).heap[g]? = some (.cells cur' t fr) ∧ cur'.size = cur.size ∧ ∀ i, i < cur.size → cur'[i]? = if o ≤ i ∧ i < o + vs.length then vs[i - o]? else cur[i]?
  | [], o, w, cur, h => ⟨cur, h, rfl, fun i _ => by rw [if_neg (by simp)]⟩
  | v :: r, o, w, cur, h => by
    obtain ⟨cur', h1, h2, h3⟩ := setCells_row g t fr r (o + 1) (w.setCell ⟨g, o, none⟩ v) (cur.setIfInBounds o v) (set_heap w g o v cur t fr h)
    refine ⟨cur', h1, by simpa using h2, fun i hi => ?_⟩
    rw [h3 i (by simpa using hi)]
    by_cases e : i = o
    · subst e
      rw [if_neg (by omega), if_pos (by simp)]
      simp [hi]
    · by_cases e2 : o + 1 ≤ i ∧ i < o + 1 + r.length
      · rw [if_pos e2, if_pos (by simp; omega)]
        obtain ⟨k, rfl⟩ : ∃ k, i = o + 1 + k := ⟨i - (o + 1), by omega⟩
        rw [show o + 1 + k - (o + 1) = k by omega, show o + 1 + k - o = k + 1 by omega]
        rfl
      · rw [if_neg e2, if_neg (by simp; omega), Array.getElem?_setIfInBounds, if_neg (Ne.symm e)]
theorem setCells_other (g j : Nat) (h : j ≠ g) : ∀ (vs : List Value) (o : Nat) (w : World), (w.setCells g o vs).heap[j]? = w.heap[j]?
  | [], _, _ => rfl
  | v :: r, o, w => (setCells_other g j h r (o + 1) (w.setCell ⟨g, o, none⟩ v)).trans (set_other w g o j v h)
theorem setCells_size (g : Nat) : ∀ (vs : List Value) (o : Nat) (w : World), (w.setCells g o vs).heap.size = w.heap.size
  | [], _, _ => rfl
  | v :: r, o, w => (setCells_size g r (o + 1) (w.setCell ⟨g, o, none⟩ v)).trans (by simp [World.setCell])
theorem setCells_calm (g : Nat) : ∀ (vs : List Value) (o : Nat) (w : World), Calm w (w.setCells g o vs)
  | [], _, _ => ⟨rfl, rfl, rfl⟩
  | v :: r, o, w => setCells_calm g r (o + 1) (w.setCell ⟨g, o, none⟩ v)
def movF (G : Nat → Ob) (p r : Nat) : List Value := (List.range ((r - (p + 1)) * 2)).map fun j => fC G ((p + 1) * 2 + j)
def delF (G : Nat → Ob) (p : Nat) : Nat → Ob := fun i => if i < p then G i else G (i + 1)
theorem movF_len (G : Nat → Ob) (p r : Nat) : (movF G p r).length = (r - (p + 1)) * 2 := by simp [movF]
theorem movF_get (G : Nat → Ob) (p r j : Nat) (h : j < (r - (p + 1)) * 2) : (movF G p r)[j]? = some (fC G ((p + 1) * 2 + j)) := by simp [movF, h]
theorem movF_one (G : Nat → Ob) (p r : Nat) : ∀ u ∈ movF G p r, u.oneCell' = true := by
  intro u hu
  obtain ⟨i, _, rfl⟩ := List.mem_map.1 hu
  unfold fC
  split <;> rfl
theorem fC_del (G : Nat → Ob) (p i : Nat) : fC (delF G p) i = if i < p * 2 then fC G i else fC G (i + 2) := by
  unfold fC delF
  have e1 : (i + 2) % 2 = i % 2 := by omega
  have e2 : (i + 2) / 2 = i / 2 + 1 := by omega
  by_cases h : i < p * 2
  · rw [if_pos h, if_pos (show i / 2 < p by omega)]
  · rw [if_neg h, if_neg (show ¬ i / 2 < p by omega), e1, e2]
theorem OwnF.cur {w : World} {B n g cap : Nat} {F : Nat → Ob} (h : OwnF w B (.slice (some ⟨g, 0, none⟩) n cap) n F) : ∃ cur, w.heap[g]? = some (.cells cur 72 (0, 0)) ∧ B ≤ g ∧ n ≤ cap ∧ cap ≤ maxLen ∧ cur.size = cap * 2 ∧ ∀ i, i < n * 2 → cur[i]? = some (fC F i) := by
  rcases h.2 with ⟨h2, _⟩ | ⟨g', cap', cur, hv, hb, hh, hc1, hc2, hc3, hc4⟩
  · cases h2
  · cases hv
    refine ⟨cur, hh, hb, hc1, hc2, hc3, fun j hj => ?_⟩
    have := congrArg (fun l => l[j]?) hc4
    simp only [objF_get F n j hj] at this
    rw [← this, List.getElem?_take, if_pos hj]
    simp
theorem OwnF.del {w : World} {B r g cap : Nat} {G : Nat → Ob} (h : OwnF w B (.slice (some ⟨g, 0, none⟩) r cap) r G) (p : Nat) (hp : p < r) :
    OwnF (w.setCells g (p * 2) (movF G p r)) B (.slice (some ⟨g, 0, none⟩) (p + (r - (p + 1))) cap) (p + (r - (p + 1))) (delF G p) := by
  obtain ⟨cur, hh, hb, hc1, hc2, hc3, hc4⟩ := h.cur
  obtain ⟨cur', h1, h2, h3⟩ := setCells_row g 72 (0, 0) (movF G p r) (p * 2) w cur hh
  refine ⟨objF_len _ _, .inr ⟨g, cap, cur', rfl, hb, h1, by omega, hc2, by omega, ?_⟩⟩
  apply List.ext_getElem?
  intro i
  by_cases hi : i < (p + (r - (p + 1))) * 2
  · rw [objF_get _ _ _ hi, List.getElem?_take, if_pos hi, Array.getElem?_toList, h3 i (by omega), movF_len, fC_del]
    by_cases e : i < p * 2
    · rw [if_neg (by omega), if_pos e, hc4 i (by omega)]
    · rw [if_pos (by omega), if_neg e, movF_get _ _ _ _ (by omega), show (p + 1) * 2 + (i - p * 2) = i + 2 by omega]
  · rw [List.getElem?_take, if_neg hi, List.getElem?_eq_none (by rw [objF_len]; omega)]
theorem erase_perm : ∀ (l : List Ob) (p : Nat) (h : p < l.length), l.Perm (l[p] :: l.eraseIdx p)
  | [], _, h => by simp at h
  | x :: r, 0, _ => List.Perm.refl _
  | x :: r, p + 1, h => ((erase_perm r p (by simpa using h)).cons x).trans (List.Perm.swap _ _ _)
theorem del_perm (G : Nat → Ob) (r p : Nat) (hp : p < r) : ((List.range r).map G).Perm (G p :: (List.range (p + (r - (p + 1)))).map (delF G p)) := by
  have hl : p < ((List.range r).map G).length := by simpa using hp
  have h1 := erase_perm _ p hl
  have e1 : ((List.range r).map G)[p] = G p := by simp
  have e2 : ((List.range r).map G).eraseIdx p = (List.range (p + (r - (p + 1)))).map (delF G p) := by
    apply List.ext_getElem?
    intro i
    rw [List.getElem?_eraseIdx]
    by_cases hi : i < p
    · rw [if_pos hi]
      simp [delF, hi, show i < r by omega, show i < p + (r - (p + 1)) by omega]
    · rw [if_neg hi]
      by_cases h2 : i + 1 < r
      · simp [delF, hi, h2, show i < p + (r - (p + 1)) by omega]
      · simp [h2, show ¬ i < p + (r - (p + 1)) by omega]
  rw [e1, e2] at h1
  exact h1
end Go.Proofs.YtadinjaocnlglaaGreatDoor
namespace Go.Proofs.YtadinjaocnlglaaGreatDoor
open Go.RowKit
def KT : List Int := [1116352408, 1899447441, 3049323471, 3921009573, 961987163, 1508970993, 2453635748, 2870763221, 3624381080, 310598401, 607225278, 1426881987, 1925078388, 2162078206, 2614888103, 3248222580, 3835390401, 4022224774, 264347078, 604807628, 770255983, 1249150122, 1555081692, 1996064986, 2554220882, 2821834349, 2952996808, 3210313671, 3336571891, 3584528711, 113926993, 338241895, 666307205, 773529912, 1294757372, 1396182291, 1695183700, 1986661051, 2177026350, 2456956037, 2730485921, 2820302411, 3259730800, 3345764771, 3516065817, 3600352804, 4094571909, 275423344, 430227734, 506948616, 659060556, 883997877, 958139571, 1322822218, 1537002063, 1747873779, 1955562222, 2024104815, 2227730452, 2361852424, 2428436474, 2756734187, 3204031479, 3329325298]
def kt (j : Nat) : Int := KT.getD j 0
end Go.Proofs.YtadinjaocnlglaaGreatDoor
namespace Go.Proofs.YtadinjaocnlglaaGreatDoor
open Go.RowKit
set_option maxRecDepth 100000
set_option maxHeartbeats 1000000
theorem vdigest_any (kt : Nat → Int) (s : ByteArray) (w : World) (hs : s.size ≤ 140737488351232) (hT : Tab w 2 kt) (h3 : 4 ≤ w.heap.size) :
    Calls Tryz.prog 79 #[.string s] w fun e w' => e = .returned (.string (ofT kt s)) ∧ Below w.heap.size w w' := by
  have H : Hid _ := of_any kt s w hs hT h3
  clear hT
  go_enter Tryz.func79, Tryz.ntmps79
  go_wp2_with fail
  refine Calls.mono H.out ?_
  rintro e w1 ⟨rfl, hB⟩
  go_wp2
  go_ret
  exact ⟨rfl, hB⟩
end Go.Proofs.YtadinjaocnlglaaGreatDoor
namespace Go.Proofs.YtadinjaocnlglaaGreatDoor
open Go.RowKit
set_option maxRecDepth 100000
set_option maxHeartbeats 1000000
def movT (G : Nat → ByteArray) (p r : Nat) : List Value := (List.range (r - (p + 1))).map fun j => .string (G (p + 1 + j))
def delT (G : Nat → ByteArray) (p : Nat) : Nat → ByteArray := fun i => if i < p then G i else G (i + 1)
theorem movT_len (G : Nat → ByteArray) (p r : Nat) : (movT G p r).length = r - (p + 1) := by simp [movT]
theorem movT_get (G : Nat → ByteArray) (p r j : Nat) (h : j < r - (p + 1)) : (movT G p r)[j]? = some (.string (G (p + 1 + j))) := by simp [movT, h]
theorem movT_one (G : Nat → ByteArray) (p r : Nat) : ∀ u ∈ movT G p r, u.oneCell' = true := by
  intro u hu
  obtain ⟨i, _, rfl⟩ := List.mem_map.1 hu
  rfl
theorem tV_get (G : Nat → ByteArray) (r i : Nat) (h : i < r) : (tV G r)[i]? = some (.string (G i)) := by simp [tV, h]
theorem own_curT {w : World} {B n g cap : Nat} {G : Nat → ByteArray} (h : w.ownsRow B 9 1 (.slice (some ⟨g, 0, none⟩) n cap) n (tV G n)) : ∃ cur, w.heap[g]? = some (.cells cur 9 (0, 0)) ∧ B ≤ g ∧ n ≤ cap ∧ cap ≤ maxLen ∧ cur.size = cap * 1 ∧ ∀ i, i < n → cur[i]? = some (.string (G i)) := by
  rcases h.2 with ⟨h2, _⟩ | ⟨g', cap', cur, hv, hb, hh, hc1, hc2, hc3, hc4⟩
  · cases h2
  · cases hv
    refine ⟨cur, hh, hb, hc1, hc2, hc3, fun j hj => ?_⟩
    have := congrArg (fun l => l[j]?) hc4
    simp only [tV_get G n j hj] at this
    rw [← this, List.getElem?_take, if_pos (by omega)]
    simp
theorem own_delT {w : World} {B r g cap : Nat} {G : Nat → ByteArray} (h : w.ownsRow B 9 1 (.slice (some ⟨g, 0, none⟩) r cap) r (tV G r)) (p : Nat) (hp : p < r) :
    (w.setCells g p (movT G p r)).ownsRow B 9 1 (.slice (some ⟨g, 0, none⟩) (r - 1) cap) (r - 1) (tV (delT G p) (r - 1)) := by
  obtain ⟨cur, hh, hb, hc1, hc2, hc3, hc4⟩ := own_curT h
  obtain ⟨cur', h1, h2, h3⟩ := setCells_row g 9 (0, 0) (movT G p r) p w cur hh
  refine ⟨by rw [tV_len]; omega, .inr ⟨g, cap, cur', rfl, hb, h1, by omega, hc2, by omega, ?_⟩⟩
  apply List.ext_getElem?
  intro i
  by_cases hi : i < r - 1
  · rw [tV_get _ _ _ hi, List.getElem?_take, if_pos (by omega), Array.getElem?_toList, h3 i (by omega), movT_len]
    unfold delT
    by_cases e : i < p
    · rw [if_neg (by omega), if_pos e, hc4 i (by omega)]
    · rw [if_pos (by omega), if_neg e, movT_get _ _ _ _ (by omega), show p + 1 + (i - p) = i + 1 by omega]
  · rw [List.getElem?_take, if_neg (by omega), List.getElem?_eq_none (by rw [tV_len]; omega)]
theorem ents_nm : ∀ (k : Nat) (s : RS) (nm : ByteArray) (left : Int) (acc : List (ByteArray × Nat)), (∀ x ∈ acc, x.1.size ≤ 255) → ∀ x ∈ (RS.ents k s nm left acc).2, x.1.size ≤ 255
  | 0, _, _, _, _, h => h
  | k + 1, s, nm, left, acc, h => by
    rw [RS.ents]
    refine ents_nm k _ _ _ _ (fun x hx => ?_)
    rcases List.mem_append.1 hx with hx | hx
    · exact h x hx
    · rw [List.mem_singleton] at hx
      subst hx
      show ((s.num 1 255).1.bytes (s.num 1 255).2).2.size ≤ 255
      have h1 : (s.num 1 255).2 ≤ 255 := num_hi s 1 255
      have h2 : ((s.num 1 255).1.bytes (s.num 1 255).2).2.size ≤ (s.num 1 255).2 := by
        unfold RS.bytes
        split
        · exact Nat.zero_le _
        · split
          · exact Nat.zero_le _
          · show (ByteArray.extract _ _ _).size ≤ _
            rw [ByteArray.size_extract]; omega
      omega
theorem told_nm (s : RS) : ∀ x ∈ s.told.L.es, x.1.size ≤ 255 := by
  have hl : ∀ r : RS, ∀ x ∈ r.list.es, x.1.size ≤ 255 := fun r => ents_nm _ _ _ _ _ (fun x hx => by cases hx)
  unfold RS.told
  simp only []
  split
  · exact hl _
  · exact hl _
end Go.Proofs.YtadinjaocnlglaaGreatDoor
namespace Go.Proofs.YtadinjaocnlglaaGreatDoor
open Go.RowKit
set_option maxRecDepth 100000
set_option maxHeartbeats 4000000
theorem OwnF.cells {w : World} {B n : Nat} {v : Value} {F : Nat → Ob} (h : OwnF w B v n F) : ∃ a c, v = .slice a n c ∧ ∀ i, i < n → ∃ g, a = some ⟨g, 0, none⟩ ∧ w.cell? ⟨g, i * 2, none⟩ = some (.string (F i).1) ∧ w.cell? ⟨g, i * 2 + 1, none⟩ = some (.string (F i).2) := by
  rcases Nat.eq_zero_or_pos n with h0 | h0
  · obtain ⟨a, c, hv⟩ := own_shape h
    exact ⟨a, c, hv, fun i hi => by omega⟩
  · obtain ⟨g, cap, hv, _, _, _⟩ := h.at h0
    subst hv
    exact ⟨some ⟨g, 0, none⟩, cap, rfl, fun i hi => ⟨g, rfl, h.c0 i hi, h.c1 i hi⟩⟩
theorem sameO_any (A B : Nat → Ob) (n ca cb : Nat) (a b : Option Addr) (w : World) (hn : n ≤ 1000000) (hA : ∀ i, i < n → ∃ g, a = some ⟨g, 0, none⟩ ∧ w.cell? ⟨g, i * 2, none⟩ = some (.string (A i).1) ∧ w.cell? ⟨g, i * 2 + 1, none⟩ = some (.string (A i).2)) (hB : ∀ i, i < n → ∃ g, b = some ⟨g, 0, none⟩ ∧ w.cell? ⟨g, i * 2, none⟩ = some (.string (B i).1) ∧ w.cell? ⟨g, i * 2 + 1, none⟩ = some (.string (B i).2)) (h : ∀ i, i < n → A i = B i) :
    Calls Tryz.prog 29 #[.slice a n ca, .slice b n cb] w fun e w' => e = .returned (.bool true) ∧ Below w.heap.size w w' := by
  have HA : Hid _ := hA
  have HB : Hid _ := hB
  have HE : Hid _ := h
  clear hA hB h
  go_enter Tryz.func29, Tryz.ntmps29
  go_wp2_with fail
  go_loopw [5] (fun iv wr => ∃ i m : Nat, i ≤ n ∧ iv = .int .i64 i ∧ wr = w.drewN m) (fun iv _ => n - (intOf iv).toNat)
  case atStart => exact ⟨0, 0, by omega, rfl, rfl⟩
  case round =>
    obtain ⟨i, m, hi, rfl, hw⟩ := hrel
    by_cases hlt : i < n
    · have hin : (i : Int) < (n : Int) := by omega
      obtain ⟨g1, ha, x0, x1⟩ := HA.out i hlt
      obtain ⟨g2, hb, y0, y1⟩ := HB.out i hlt
      subst ha hb
      rw [HE.out i hlt] at x0 x1
      have c0 : wr.cell? ⟨g1, i * 2, none⟩ = some (.string (B i).1) := by rw [hw]; exact x0
      have c1 : wr.cell? ⟨g1, i * 2 + 1, none⟩ = some (.string (B i).2) := by rw [hw]; exact x1
      have d0 : wr.cell? ⟨g2, i * 2, none⟩ = some (.string (B i).1) := by rw [hw]; exact y0
      have d1 : wr.cell? ⟨g2, i * 2 + 1, none⟩ = some (.string (B i).2) := by rw [hw]; exact y1
      have HW : Hid _ := hw
      clear hw x0 x1 y0 y1
      go_wp2_with fail
      go_quiet (fail)
      go_wp2_with fail
      go_roundw
      case rel => exact ⟨i + 1, _, by omega, by go_num, by rw [HW.out, World.drewN_drewN]⟩
      case measure => simp [intOf]; omega
    · go_wp2_with fail
      go_ret
      exact ⟨rfl, below_drewN (Below.refl _ _) _⟩
end Go.Proofs.YtadinjaocnlglaaGreatDoor
