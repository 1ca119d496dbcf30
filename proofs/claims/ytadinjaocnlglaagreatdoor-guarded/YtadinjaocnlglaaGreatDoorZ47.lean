/-
  The walk of vaultkeep's changed.
  The walk of Stock.part at every Stock.
  Unpack of a Stock, and of a Vault, at every one: what comes out, and the error that names what is lost.
  A Vault's Unpack at every Vault.
-/
import Derived.Test.YtadinjaocnlglaaGreatDoorZ46
import Derived.Test.YtadinjaocnlglaaGreatDoorZ44
namespace Go.Proofs.YtadinjaocnlglaaGreatDoor
open Go.RowKit
set_option maxRecDepth 100000
set_option maxHeartbeats 4000000
theorem pick_big (c : Int) (n : Nat) (w : World) (hn : 0 < n) (hn2 : n ≤ 140737488351232) (h0 : -9223372036854775808 ≤ c) (h1 : c ≤ 9223372036854775807) :
    Calls Tryz.prog 54 #[.int .i64 c, .int .i64 n] w fun e w' => e = .returned (.int .i64 (pk c n)) ∧ w' = w := by
  by_cases hc : c < 0
  · have E : Hid (-((c + 1).tmod (n : Int)) = ((pk c n : Nat) : Int)) := by
      show -((c + 1).tmod (n : Int)) = ((pk c n : Nat) : Int)
      unfold pk absN
      rw [if_pos hc, ← Int.neg_tmod]
      obtain ⟨a, ha⟩ : ∃ a : Nat, -(c + 1) = (a : Int) := ⟨(-(c + 1)).toNat, by omega⟩
      rw [ha, Int.toNat_natCast]
      exact Int.ofNat_tmod a n
    go_enter Tryz.func54, Tryz.ntmps54
    go_wp2
    go_ret
    rw [E.out]
    exact ⟨rfl, rfl⟩
  · have E : Hid (c % (n : Int) = ((pk c n : Nat) : Int)) := by
      show c % (n : Int) = ((pk c n : Nat) : Int)
      unfold pk absN
      rw [if_neg hc]
      obtain ⟨a, ha⟩ : ∃ a : Nat, c = (a : Int) := ⟨c.toNat, by omega⟩
      rw [ha, Int.toNat_natCast]
      exact (Int.natCast_emod a n).symm
    go_enter Tryz.func54, Tryz.ntmps54
    go_wp2
    go_ret
    rw [E.out]
    exact ⟨rfl, rfl⟩
def ChD (w : World) (V : Nat) (L : Nat → ByteArray) (S : ByteArray) (e : Ending) (w' : World) : Prop :=
  ∃ g c L', e = .returned (.slice (some ⟨g, 0, none⟩) V c) ∧ VRw w' g V L' ∧ Below w.heap.size w w' ∧ w.heap.size ≤ g ∧ (L' = L ∨ ∃ u t, u < V ∧ (t = S ∨ t.size = (L u).size) ∧ L' = updT L u t)
theorem changed_any (V gv cv : Nat) (L : Nat → ByteArray) (cV cA cB : Int) (wh : Bool) (S : ByteArray) (w : World) (hV1 : 1 ≤ V) (hV : V ≤ 1000) (hR : VRw w gv V L) (hLs : ∀ v, v < V → (L v).size ≤ 140737488351232) (v0 : -9223372036854775808 ≤ cV) (v1 : cV ≤ 9223372036854775807) (a0 : -9223372036854775808 ≤ cA) (a1 : cA ≤ 9223372036854775807) :
    Calls Tryz.prog 44 #[.slice (some ⟨gv, 0, none⟩) V cv, .agg #[.int .i64 cV, .int .i64 cA, .int .i64 cB, .bool wh, .string S]] w (ChD w V L S) := by
  obtain ⟨w0, hw0⟩ : ∃ w0, w.alloc (.cells #[.int .i64 cV, .int .i64 cA, .int .i64 cB, .bool wh, .string S] 107) = w0 := ⟨_, rfl⟩
  have hb0 : Below w.heap.size w w0 := by rw [← hw0]; exact (Below.refl _ _).alloc (Nat.le_refl _) _
  have hR0 := hR.kept (hb0.block gv hR.lt)
  obtain ⟨lv, w1, hr1, hcase, hb1⟩ := own_copy w0 (some ⟨gv, 0, none⟩) V cv L (.inr ⟨_, rfl, fun i hi => ⟨gv, 0, rfl, hR0.lt, by rw [Nat.zero_add]; exact hR0.cell hi⟩⟩) (by omega)
  obtain ⟨g, cap, rfl, hgB, hvr⟩ : ∃ g cap, lv = .slice (some ⟨g, 0, none⟩) V cap ∧ w0.heap.size ≤ g ∧ VRw w1 g V L := by
    rcases hcase with ⟨e, _⟩ | ⟨_, ho⟩
    · omega
    · exact own_vr ho (by omega)
  have hl0 : w0.heap[w.heap.size]? = some (.cells #[.int .i64 cV, .int .i64 cA, .int .i64 cB, .bool wh, .string S] 107 (0, 0)) := by rw [← hw0]; exact heap_alloc_new _ _
  have hl1 : w1.heap[w.heap.size]? = some (.cells #[.int .i64 cV, .int .i64 cA, .int .i64 cB, .bool wh, .string S] 107 (0, 0)) := (hb1.block _ (Array.getElem?_eq_some_iff.1 hl0).1).trans hl0
  have hg0 : w.heap.size ≤ g := Nat.le_trans hb0.size hgB
  obtain ⟨lb, hlb⟩ : ∃ lb, w.heap.size = lb := ⟨_, rfl⟩
  rw [hlb] at hl1
  have l0 : w1.cell? ⟨lb, 0, none⟩ = some (.int .i64 cV) := cell_of_row _ _ _ _ 107 _ hl1
  have l1 : w1.cell? ⟨lb, 1, none⟩ = some (.int .i64 cA) := cell_of_row _ _ _ _ 107 _ hl1
  have l2 : w1.cell? ⟨lb, 2, none⟩ = some (.int .i64 cB) := cell_of_row _ _ _ _ 107 _ hl1
  have l3 : w1.cell? ⟨lb, 3, none⟩ = some (.bool wh) := cell_of_row _ _ _ _ 107 _ hl1
  have l4 : w1.cell? ⟨lb, 4, none⟩ = some (.string S) := cell_of_row _ _ _ _ 107 _ hl1
  have HPV : Hid (∀ W, Calls Tryz.prog 54 #[.int .i64 cV, .int .i64 V] W fun e w' => e = .returned (.int .i64 (pk cV V)) ∧ w' = W) := fun W => pick_big cV V W (by omega) (by omega) v0 v1
  have hul := pk_lt cV V (by omega)
  obtain ⟨u, hu⟩ : ∃ u, pk cV V = u := ⟨_, rfl⟩
  rw [hu] at HPV hul
  have t1 : w1.cell? ⟨g, u, none⟩ = some (.string (L u)) := hvr.cell hul
  have t2 := hvr.free u
  have hVz : ((V : Int) == 0) = false := by simp; omega
  have HRUN : Hid _ := hr1
  have HVR : Hid (VRw w1 g V L) := hvr
  have HB1 : Hid (Below w.heap.size w w1) := hb0.trans (hb1.mono hb0.size)
  have HLS : Hid _ := hLs
  have HG : Hid (w.heap.size ≤ g) := hg0
  clear hu hR hR0 hb0 hr1 hcase hb1 hvr hl0 hl1 hgB hg0 hLs v0 v1
  go_enter Tryz.func44, Tryz.ntmps44
  go_wp2_with (at_builtin; refine wpList_app rfl (.tmp 8) (.tmp 9) 42 rfl _ _ _ (by simp [Act.eval]) (by simp [Act.eval]) _ HRUN.out ?_)
  clear hw0 hlb
  refine Calls.mono (HPV.out _) ?_
  rintro e w2 ⟨rfl, rfl⟩
  cases wh
  · by_cases hz : 0 < (L u).size
    · have hz' : (0 : Int) < ((L u).size : Int) := by omega
      have hls := HLS.out u hul
      have HPA : Hid (∀ W, Calls Tryz.prog 54 #[.int .i64 cA, .int .i64 ((L u).size : Nat)] W fun e w' => e = .returned (.int .i64 (pk cA (L u).size)) ∧ w' = W) := fun W => pick_big cA (L u).size W hz hls a0 a1
      have hil := pk_lt cA (L u).size hz
      obtain ⟨i, hi⟩ : ∃ i, pk cA (L u).size = i := ⟨_, rfl⟩
      rw [hi] at HPA hil
      clear hi a0 a1
      go_wp2_with fail
      go_quiet (first | (go_at_call 54; exact Calls.quiet_of_same (HPA.out _)))
      go_wp2_with fail
      obtain ⟨W3, hW3⟩ : ∃ W3, w2.drewN nq = W3 := ⟨_, rfl⟩
      have HV3 : Hid (VRw W3 g V L) := by show VRw _ _ _ _; rw [← hW3]; exact VRw.drewN HVR.out _
      have HB3 : Hid (Below w.heap.size w W3) := by show Below _ _ _; rw [← hW3]; exact below_dN HB1.out _
      have m2 : W3.cell? ⟨lb, 2, none⟩ = some (.int .i64 cB) := by rw [← hW3]; exact l2
      rw [hW3]
      clear hW3 l0 l1 l2 l3 l4 t1 t2 HPA HPV HVR HB1
      have t1 : W3.cell? ⟨g, u, none⟩ = some (.string (L u)) := VRw.cell HV3.out hul
      obtain ⟨X, hX⟩ : ∃ X, IntKind.u8.wrap cB = X := ⟨_, rfl⟩
      obtain ⟨W5, hW5⟩ : ∃ W5, (W3.alloc (.cells #[.int .u8 X] 5)).drew = W5 := ⟨_, rfl⟩
      have hb5 : Below W3.heap.size W3 W5 := by rw [← hW5]; exact ((Below.refl _ _).alloc (Nat.le_refl _) _).drew
      have HV5 : Hid (VRw W5 g V L) := VRw.kept HV3.out (hb5.block g (VRw.lt HV3.out))
      have HB5 : Hid (Below w.heap.size w W5) := HB3.out.trans (hb5.mono HB3.out.size)
      have t5 : W5.cell? ⟨g, u, none⟩ = some (.string (L u)) := VRw.cell HV5.out hul
      have f5 : W5.frozen? ⟨g, u, none⟩ = false := VRw.free HV5.out u
      have hcell : W5.cell? ⟨W3.heap.size, 0, none⟩ = some (.int .u8 X) := by
        rw [← hW5]
        have h0 : (W3.alloc (.cells #[.int .u8 X] 5)).cell? ⟨W3.heap.size, 0, none⟩ = some (.int .u8 X) := cell_of_row _ _ _ _ 5 _ (heap_alloc_new W3 _)
        exact h0
      have hcv := run_convert_bytes_arg (P := Tryz.prog) W5 165 5 Tryz.underlying165 Tryz.underlying5 W3.heap.size 0 1 1 [X] rfl (fun j hj => by
        obtain rfl : j = 0 := by omega
        exact hcell) 9 Tryz.underlying9
      obtain ⟨s1, hs1⟩ : ∃ s1, strOfNums [X] = s1 := ⟨_, rfl⟩
      have hs1z : s1.size = 1 := by rw [← hs1, strOfNums_size]; rfl
      rw [hs1] at hcv
      have HZZ : Hid (((L u).extract 0 i ++ s1 ++ (L u).extract (i + 1) (L u).size).size = (L u).size) := by
        show _ = _
        rw [ByteArray.size_append, ByteArray.size_append, ByteArray.size_extract, ByteArray.size_extract, hs1z]
        omega
      have k1 : (0 : Int) ≤ (i : Int) := by omega
      have k2 : (i : Int) ≤ ((L u).size : Int) := by omega
      have k3 : (0 : Int) ≤ (i : Int) + 1 := by omega
      have k4 : (i : Int) + 1 ≤ ((L u).size : Int) := by omega
      have k5 : IntKind.i64.wrap ((i : Int) + 1) = (i : Int) + 1 := by rw [IntKind.wrap_i64]; omega
      have k6 : ((i : Int) + 1).toNat = i + 1 := by omega
      have k7 : min i (L u).size = i := by omega
      clear hs1 hb5 hcell
      go_region
      all_goals
        go_wp2_with fail
        go_ret
        exact ⟨g, cap, _, rfl, HV5.out.set u _, HB5.out.setCell (p := ⟨g, u, none⟩) HG.out _, HG.out, .inr ⟨u, _, hul, .inr HZZ.out, rfl⟩⟩
    · have hz' : ¬ (0 : Int) < ((L u).size : Int) := by omega
      go_wp2_with fail
      go_ret
      exact ⟨g, cap, L, rfl, HVR.out, HB1.out, HG.out, .inl rfl⟩
  · go_wp2_with fail
    go_ret
    exact ⟨g, cap, _, rfl, HVR.out.set u S, HB1.out.setCell (p := ⟨g, u, none⟩) HG.out _, HG.out, .inr ⟨u, S, hul, .inl rfl, rfl⟩⟩
end Go.Proofs.YtadinjaocnlglaaGreatDoor
namespace Go.Proofs.YtadinjaocnlglaaGreatDoor
open Go.RowKit
set_option maxRecDepth 100000
set_option maxHeartbeats 4000000
def ADid (kt : Nat → Int) (B k g p q f : Nat) (T : TT) (un : Value) (ul : List Nat) (rd : Nat → Bool) (bl : Nat → ByteArray) (w : World) (v l : Value) (F : Nat → Ob) (n : Nat) (H : Nat → ByteArray) (m : Nat) (w' : World) : Prop :=
  (∃ (dn' : Nat → Bool) (zs' : Nat → Nat) (bd' : Nat → Value), VS kt B k g p q f T un ul rd bl dn' zs' bd' w') ∧ Fr (fun j => j = q ∨ j = f) w w' ∧ OwnF w' w.heap.size v n F ∧ objs F n = outL kt T bl T.L.es.length ∧ w'.ownsRow w.heap.size 9 1 l m (tV H m) ∧ texL H m = losL kt T bl T.L.es.length
theorem part_any (kt : Nat → Int) (B k g p q f : Nat) (T : TT) (un : Value) (ul : List Nat) (rd : Nat → Bool) (bl : Nat → ByteArray) (dn : Nat → Bool) (zs : Nat → Nat) (bd : Nat → Value) (w : World) (h : VS kt B k g p q f T un ul rd bl dn zs bd w) (hT : Told1 T) (hle : T.L.es.length ≤ 16 ∧ lenE T.L.es ≤ 4096) (hG : Gd kt w) (hB : B ≤ w.heap.size) :
    Calls Tryz.prog 121 #[.pointer (some ⟨k, 0, none⟩)] w fun e w' => ∃ v l F n H m, e = .returned (.tuple #[v, l]) ∧ ADid kt B k g p q f T un ul rd bl w v l F n H m w' := by
  have H : Hid _ := h
  obtain ⟨aE, kE, num, first, vB, hg, hoE⟩ := h.hd
  have c0 : w.cell? ⟨k, 0, none⟩ = some (.pointer (some ⟨g, 0, none⟩)) := cell_of_row _ _ _ _ 224 _ h.row
  obtain ⟨ne, hne⟩ : ∃ x, T.L.es.length = x := ⟨_, rfl⟩
  have c6 : w.cell? ⟨g, 6, none⟩ = some (.slice aE ne kE) := by rw [← hne]; exact cell_of_row _ _ _ _ 319 _ hg
  have HEC : Hid (∀ (X : World), Fr (fun j => j = q ∨ j = f) w X → ∀ j, j < ne → ∃ b, aE = some ⟨b, 0, none⟩ ∧ b < X.heap.size ∧ X.cell? ⟨b, j * 2, none⟩ = some (.string (nmE T.L.es j)) ∧ X.cell? ⟨b, j * 2 + 1, none⟩ = some (.int .i64 (lnE T.L.es j))) := fun X hX j hj => by
    have ho : X.ownsRow B 70 2 (.slice aE T.L.es.length kE) T.L.es.length (enV T.L.es) := own_kept' hoE (fun y cs _ hy => by
      rw [hX.old y (Array.getElem?_eq_some_iff.1 hy).1 (fun e => by
        rcases e with e | e
        · exact row_ne hy h.blR (by decide) e
        · exact row_ne hy h.fiR (by decide) e)]
      exact hy)
    exact ent_cellsE rfl ho j (by omega)
  have hne16 : ne ≤ 16 := by rw [← hne]; exact hle.1
  have HLE : Hid _ := hle
  have HNE : Hid _ := hne
  have HLEN : Hid (∀ j, j < ne → lenE (T.L.es.take (j + 1)) = lenE (T.L.es.take j) + lnE T.L.es j ∧ lenE (T.L.es.take (j + 1)) ≤ lenE T.L.es) := fun j hj => ⟨take_len _ _ (by omega), lenE_take_le _ _⟩
  have hqw : q < w.heap.size := h.blR.lt
  clear h hg hoE hne
  go_enter Tryz.func121, Tryz.ntmps121
  go_wp2_with fail
  clear c0 c6
  go_loopw [18, 4, 2, 3] (fun iv fv ov lv wr => ∃ (i : Nat) (dn' : Nat → Bool) (zs' : Nat → Nat) (bd' : Nat → Value) (vo vl : Value) (F : Nat → Ob) (n : Nat) (H : Nat → ByteArray) (m : Nat), i ≤ ne ∧ iv = .int .i64 i ∧ fv = .int .i64 (lenE (T.L.es.take i)) ∧ vo = ov ∧ vl = lv ∧ n ≤ i ∧ m ≤ i ∧ VS kt B k g p q f T un ul rd bl dn' zs' bd' wr ∧ Fr (fun j => j = q ∨ j = f) w wr ∧ OwnF wr w.heap.size vo n F ∧ objs F n = outL kt T bl i ∧ wr.ownsRow w.heap.size 9 1 vl m (tV H m) ∧ texL H m = losL kt T bl i) (fun iv _ _ _ _ => ne - (intOf iv).toNat)
  case atStart => exact ⟨0, dn, zs, bd, _, _, fun _ => (⟨#[]⟩, ⟨#[]⟩), 0, fun _ => ⟨#[]⟩, 0, by omega, rfl, by simp [lenE], rfl, rfl, by omega, by omega, H.out, Fr.refl _ _, ⟨by simp [objF], .inl ⟨rfl, rfl⟩⟩, rfl, ⟨rfl, .inl ⟨rfl, rfl⟩⟩, rfl⟩
  case round =>
    obtain ⟨i, dn1, zs1, bd1, vo, vl, F, n, HH, m, hi, rfl, rfl, rfl, rfl, hn, hm, hV, hF, hO, hOL, hL, hLL⟩ := hrel
    have HOL : Hid _ := hOL
    have HLL : Hid _ := hLL
    have HLO : Hid (wr.ownsRow w.heap.size 9 1 vl m (tV HH m)) := hL
    clear hOL hLL
    have HV : Hid _ := hV
    have HF : Hid _ := hF
    have HO : Hid (OwnF wr w.heap.size vo n F) := hO
    by_cases hlt : i < ne
    · have hin : (i : Int) < (ne : Int) := by omega
      obtain ⟨be, hbe, hbl, y0, y1⟩ := HEC.out wr hF i hlt
      subst hbe
      obtain ⟨hl1, hl2⟩ := HLEN.out i hlt
      have hl3 := HLE.out.2
      obtain ⟨fi, hfi⟩ : ∃ x, lenE (T.L.es.take i) = x := ⟨_, rfl⟩
      obtain ⟨ln, hln⟩ : ∃ x, lnE T.L.es i = x := ⟨_, rfl⟩
      obtain ⟨nm, hnm⟩ : ∃ x, nmE T.L.es i = x := ⟨_, rfl⟩
      rw [hl1] at hl2
      rw [hfi, hln] at hl2
      rw [hln] at y1
      rw [hnm] at y0
      rw [hfi]
      obtain ⟨W, hW⟩ : ∃ W, wr.alloc (.cells #[.string nm, .int .i64 ln] 70) = W := ⟨_, rfl⟩
      have hbW : Below wr.heap.size wr W := by rw [← hW]; exact (Below.refl _ _).alloc (Nat.le_refl _) _
      obtain ⟨eb, heb⟩ : ∃ x, wr.heap.size = x := ⟨_, rfl⟩
      have hWe : W.heap[eb]? = some (.cells #[.string nm, .int .i64 ln] 70 (0, 0)) := by rw [← hW, ← heb]; exact heap_alloc_new _ _
      have HWE : Hid _ := hWe
      have hVW := hV.below hbW
      have hFW := hF.thenBelow hbW
      have HDA : Hid _ := data_any kt B k g p q f fi (fi + ln) T un ul rd bl dn1 zs1 bd1 W hVW hT HLE.out (H.out.gd hG hFW) (Nat.le_trans hB hFW.size) (by omega) (by omega)
      have HVW : Hid _ := hVW
      have HFW : Hid _ := hFW
      have HOW : Hid (OwnF W w.heap.size vo n F) := own_below hO hbW
      have HLW : Hid (W.ownsRow w.heap.size 9 1 vl m (tV HH m)) := own_below hL hbW
      have hsum : (fi : Int) + (ln : Int) = ((fi + ln : Nat) : Int) := by simp
      obtain ⟨en, hen⟩ : ∃ x, fi + ln = x := ⟨_, rfl⟩
      rw [hen] at HDA hsum hl2
      have HFI : Hid _ := hfi
      have HLN : Hid _ := hln
      have HNM : Hid _ := hnm
      have HEN : Hid _ := hen
      have HL1 : Hid _ := hl1
      have hi6 : en ≤ 4096 := by omega
      have HHW : Hid _ := hW
      have HEB : Hid _ := heb
      clear hV hF hO hL hfi hln hnm hbW hWe hVW hFW hen hl1 hW heb
      go_wp2_with fail
      rw [HHW.out, HEB.out]
      refine Calls.mono HDA.out ?_
      rintro e w1 ⟨⟨dn2, zs2, bd2, hV2⟩, hF2, hcs⟩
      have HV2 : Hid _ := hV2
      have HFF : Hid _ := HFW.out.trans' hF2
      have hold : ∀ (j : Nat) (cs : Array Value) (t : TypeId), t = 70 ∨ t = 72 → W.heap[j]? = some (.cells cs t (0, 0)) → w1.heap[j]? = some (.cells cs t (0, 0)) := fun j cs t ht hj => by
        rw [hF2.old j (Array.getElem?_eq_some_iff.1 hj).1 (fun e => by
          rcases e with e | e
          · exact row_ne hj HVW.out.blR (by rcases ht with e | e <;> simp [e]) e
          · exact row_ne hj HVW.out.fiR (by rcases ht with e | e <;> simp [e]) e)]
        exact hj
      have hE1 := hold _ _ _ (.inl rfl) HWE.out
      have hO1 : OwnF w1 w.heap.size vo n F := own_kept' HOW.out (fun j cs _ hj => hold j cs 72 (.inr rfl) hj)
      have hL1 : w1.ownsRow w.heap.size 9 1 vl m (tV HH m) := own_kept HLW.out (fun y hy => hF2.old y (own_lt HLW.out y hy) (fun e => by
        have h0 := own_ge HLW.out y hy
        rcases e with e | e
        · omega
        · obtain ⟨cur, hcur⟩ := own_type HLW.out y hy
          exact row_ne hcur HVW.out.fiR (by decide) e))
      have z0 : w1.cell? ⟨eb, 0, none⟩ = some (.string nm) := cell_of_row _ _ _ _ 70 _ hE1
      rcases hcs with ⟨hfine, rfl⟩ | ⟨hbad, rfl⟩
      · have hok : finJ kt T bl i = true := finJ_yes (fun x h1 h2 => hfine x (by rw [HFI.out] at h1; exact h1) (by rw [HFI.out, HLN.out, HEN.out] at h2; exact h2))
        obtain ⟨o1, o2⟩ := outL_yes hok
        obtain ⟨D, hD⟩ : ∃ D : ByteArray, (⟨(strS kt T bl fi en).toArray⟩ : ByteArray) = D := ⟨_, rfl⟩
        obtain ⟨v', w2, hr, ho, hgr⟩ := own_obj hO1 HFF.out.size (by omega) nm D
        have HRUN : Hid _ := hr
        have hbA : Below w1.heap.size w1 (w1.alloc (.cells #[.string nm, .string D] 72)) := (Below.refl _ _).alloc (Nat.le_refl _) _
        have HV3 : Hid _ := (hV2.below hbA).grow (own_below hO1 hbA) hgr
        have HF3 : Hid (Fr (fun j => j = q ∨ j = f) w w2) := (HFF.out.alloc _).grown hgr (fun y hy => .inr (own_ge hO1 y hy))
        have HL3 : Hid (w2.ownsRow w.heap.size 9 1 vl m (tV HH m)) := own_kept (own_below hL1 hbA) (fun y hy => hgr.block y (own_lt (own_below hL1 hbA) y hy) (fun e => by
          obtain ⟨c1, k1⟩ := own_type (own_below hL1 hbA) y hy
          obtain ⟨c2, k2⟩ := own_type (own_below hO1 hbA) y e.symm
          exact row_ne k1 k2 (by decide) rfl))
        have HO3 : Hid _ := ho
        have HOE : Hid (objs (updF F n (nm, D)) (n + 1) = outL kt T bl (i + 1)) := by
          show _ = _
          rw [objs_more, HOL.out, o1]
          congr 2
          show (nm, D) = unO kt T bl i
          unfold unO
          rw [HNM.out, HFI.out, HLN.out, HEN.out, hD]
        have HLE2 : Hid (texL HH m = losL kt T bl (i + 1)) := by show _ = _; rw [o2]; exact HLL.out
        obtain ⟨av, cv, hvs⟩ := own_shape hO1
        obtain ⟨av', cv', hvs'⟩ := own_shape ho
        obtain ⟨al, cl, hvl⟩ := own_shape hL1
        subst hvs hvs' hvl
        rw [hD]
        clear hV2 hF2 hold hE1 hO1 hL1 hr ho hgr hbA hD hfine hok o1 o2
        go_wp2_with (at_builtin; refine wpList_app rfl (.tmp 34) (.tmp 39) 38 rfl _ _ _ (by simp [Act.eval]) (by simp [Act.eval]) _ HRUN.out ?_)
        refine ⟨⟨i + 1, _, _, _, .slice av' (n + 1) cv', .slice al m cl, _, n + 1, HH, m, by omega, by go_num, ?_, rfl, rfl, by omega, by omega, HV3.out, HF3.out, HO3.out, HOE.out, HL3.out, HLE2.out⟩, by simp [intOf]; omega⟩
        rw [HL1.out, HFI.out, HLN.out, HEN.out]
      · have hok : finJ kt T bl i = false := finJ_no (by rw [HFI.out, HLN.out, HEN.out]; exact hbad)
        obtain ⟨o1, o2⟩ := outL_no hok
        obtain ⟨v', w2, hr, ho, hgr, _⟩ := own_more hL1 HFF.out.size (by omega) nm
        have HRUN : Hid _ := hr
        have hbA : Below w1.heap.size w1 (w1.alloc (.cells #[.string nm] 9)) := (Below.refl _ _).alloc (Nat.le_refl _) _
        have HV3 : Hid _ := (hV2.below hbA).grow9 (own_below hL1 hbA) hqw hgr
        have HF3 : Hid (Fr (fun j => j = q ∨ j = f) w w2) := (HFF.out.alloc _).grown hgr (fun y hy => .inr (own_ge hL1 y hy))
        have HO3 : Hid (OwnF w2 w.heap.size vo n F) := own_kept (own_below hO1 hbA) (fun y hy => hgr.block y (own_lt (own_below hO1 hbA) y hy) (fun e => by
          obtain ⟨c1, k1⟩ := own_type (own_below hO1 hbA) y hy
          obtain ⟨c2, k2⟩ := own_type (own_below hL1 hbA) y e.symm
          exact row_ne k1 k2 (by decide) rfl))
        have HL3 : Hid _ := ho
        have HOE : Hid (objs F n = outL kt T bl (i + 1)) := by show _ = _; rw [o1]; exact HOL.out
        have HLE2 : Hid (texL (fun j => if j = m then nm else HH j) (m + 1) = losL kt T bl (i + 1)) := by
          show _ = _
          rw [texL_more, HLL.out, o2, HNM.out]
        obtain ⟨av, cv, hvs⟩ := own_shape hO1
        obtain ⟨al, cl, hvl⟩ := own_shape hL1
        obtain ⟨al', cl', hvl'⟩ := own_shape ho
        subst hvs hvl hvl'
        clear hV2 hF2 hold hE1 hO1 hL1 hr ho hgr hbA hbad hok o1 o2
        go_wp2_with (at_builtin; refine wpList_app rfl (.tmp 41) (.tmp 44) 42 rfl _ _ _ (by simp [Act.eval]) (by simp [Act.eval]) _ HRUN.out ?_)
        refine ⟨⟨i + 1, _, _, _, .slice av n cv, .slice al' (m + 1) cl', F, n, _, m + 1, by omega, by go_num, ?_, rfl, rfl, by omega, by omega, HV3.out, HF3.out, HO3.out, HOE.out, HL3.out, HLE2.out⟩, by simp [intOf]; omega⟩
        rw [HL1.out, HFI.out, HLN.out, HEN.out]
    · have ei : i = ne := by omega
      subst ei
      clear hV hF hO hL
      go_wp2_with fail
      go_ret2
      exact ⟨vo, vl, F, n, HH, m, rfl, ⟨_, _, _, HV.out⟩, HF.out, HO.out, by rw [HNE.out]; exact HOL.out, HLO.out, by rw [HNE.out]; exact HLL.out⟩
end Go.Proofs.YtadinjaocnlglaaGreatDoor
namespace Go.Proofs.YtadinjaocnlglaaGreatDoor
open Go.RowKit Go.MuLone
set_option maxRecDepth 100000
set_option maxHeartbeats 4000000
/-- the error of lost names -/
def LErr (er : Value) (l : Value) (m : Nat) (w : World) : Prop := (m = 0 ∧ er = .nilIface) ∨ (0 < m ∧ ∃ eg mg : Nat, er = .iface 305 (.pointer (some ⟨eg, 0, none⟩)) ∧ w.heap[eg]? = some (.cells #[.int .i64 14, .int .i64 m, .iface 287 (.pointer (some ⟨mg, 0, none⟩))] 307 (0, 0)) ∧ w.heap[mg]? = some (.cells #[l] 289 (0, 0)))
theorem flost (m : Nat) (a : Option Addr) (c : Nat) (w : World) : Calls Tryz.prog 122 #[.int .i64 m, .slice a m c] w fun e w' => ∃ eg mg : Nat, e = .returned (.iface 305 (.pointer (some ⟨eg, 0, none⟩))) ∧ w'.heap[eg]? = some (.cells #[.int .i64 14, .int .i64 m, .iface 287 (.pointer (some ⟨mg, 0, none⟩))] 307 (0, 0)) ∧ w'.heap[mg]? = some (.cells #[.slice a m c] 289 (0, 0)) ∧ Below w.heap.size w w' := by
  have HO : Hid (∀ (b : Addr) (W : World), Calls Tryz.prog 178 #[.int .i64 14, .int .i64 m, .iface 287 (.pointer (some b))] W fun e w' => ∃ g : Nat, e = .returned (.iface 305 (.pointer (some ⟨g, 0, none⟩))) ∧ w'.heap[g]? = some (.cells #[.int .i64 14, .int .i64 m, .iface 287 (.pointer (some b))] 307 (0, 0)) ∧ Below W.heap.size W w') := fun b W => by
    go_enter Tryz.func178, Tryz.ntmps178
    go_wp2
    go_ret
    exact ⟨_, rfl, heap_alloc_new _ _, (Below.refl _ _).alloc (Nat.le_refl _) _⟩
  go_enter Tryz.func122, Tryz.ntmps122
  go_wp2_with fail
  refine Calls.mono (HO.out _ _) ?_
  rintro e w1 ⟨g, rfl, h1, h2⟩
  have H1 : Hid _ := h1
  have H2 : Hid _ := h2
  clear h1 h2
  go_wp2_with fail
  go_ret
  have hb : Below w.heap.size w (w.alloc (.cells #[.slice a m c] 289)) := (Below.refl _ _).alloc (Nat.le_refl _) _
  exact ⟨_, _, rfl, H1.out, by rw [H2.out.block w.heap.size (by simp)]; exact heap_alloc_new _ _, hb.trans (H2.out.mono hb.size)⟩
def UDid (kt : Nat → Int) (B k g p q f : Nat) (T : TT) (un : Value) (ul : List Nat) (rd : Nat → Bool) (bl : Nat → ByteArray) (w : World) (e : Ending) (w' : World) : Prop :=
  ∃ v er l F n H m, e = .returned (.tuple #[v, er]) ∧ ADid kt B k g p q f T un ul rd bl w v l F n H m w' ∧ LErr er l m w'
theorem unpack_any (kt : Nat → Int) (B k g p q f : Nat) (T : TT) (un : Value) (ul : List Nat) (rd : Nat → Bool) (bl : Nat → ByteArray) (dn : Nat → Bool) (zs : Nat → Nat) (bd : Nat → Value) (w : World) (h : VS kt B k g p q f T un ul rd bl dn zs bd w) (hT : Told1 T) (hle : T.L.es.length ≤ 16 ∧ lenE T.L.es ≤ 4096) (hG : Gd kt w) (hB : B ≤ w.heap.size) :
    Calls Tryz.prog 73 #[.pointer (some ⟨k, 0, none⟩)] w (UDid kt B k g p q f T un ul rd bl w) := by
  have HP : Hid _ := part_any kt B k g p q f T un ul rd bl dn zs bd w h hT hle hG hB
  clear h hT hle hG
  go_enter Tryz.func73, Tryz.ntmps73
  go_wp2_with fail
  refine Calls.mono HP.out ?_
  rintro e w1 ⟨v, l, F, n, H, m, rfl, hP⟩
  have HD : Hid (ADid kt B k g p q f T un ul rd bl w v l F n H m w1) := hP
  clear hP
  obtain ⟨a, c, hl⟩ := own_shape HD.out.2.2.2.2.1
  subst hl
  obtain ⟨ao, co, hv⟩ := own_shape HD.out.2.2.1
  subst hv
  by_cases hm : 0 < m
  · have hm' : (0 : Int) < (m : Int) := by omega
    go_wp2_with fail
    refine Calls.mono (flost m a c w1) ?_
    rintro e w2 ⟨eg, mg, rfl, h1, h2, h3⟩
    have H1 : Hid _ := h1
    have H2 : Hid _ := h2
    have H3 : Hid _ := h3
    clear h1 h2 h3
    go_wp2_with fail
    go_ret2
    obtain ⟨⟨dn', zs', bd', q1⟩, q2, q3, q4, q5, q6⟩ := HD.out
    exact ⟨_, _, _, F, n, H, m, rfl, ⟨⟨dn', zs', bd', q1.below H3.out⟩, q2.thenBelow H3.out, own_below q3 H3.out, q4, own_below q5 H3.out, q6⟩, .inr ⟨hm, eg, mg, rfl, H1.out, H2.out⟩⟩
  · have hm' : ¬ (0 : Int) < (m : Int) := by omega
    go_wp2_with fail
    go_ret2
    exact ⟨_, _, _, F, n, H, m, rfl, HD.out, .inl ⟨by omega, rfl⟩⟩
end Go.Proofs.YtadinjaocnlglaaGreatDoor
namespace Go.Proofs.YtadinjaocnlglaaGreatDoor
open Go.RowKit Go.MuLone
set_option maxRecDepth 100000
set_option maxHeartbeats 4000000
/-- what Unpack has answered -/
def VUn (kt : Nat → Int) (B v k g p q f : Nat) (T : TT) (un : Value) (ul : List Nat) (rd : Nat → Bool) (bl : Nat → ByteArray) (w : World) (vo er : Value) (w' : World) : Prop :=
  ∃ l F n H m, VK kt B v k g p q f T un ul rd bl w' ∧ Fr (fun j => j = q ∨ j = f ∨ j = v) w w' ∧ OwnF w' w.heap.size vo n F ∧ objs F n = outL kt T bl T.L.es.length ∧ w'.ownsRow w.heap.size 9 1 l m (tV H m) ∧ texL H m = losL kt T bl T.L.es.length ∧ LErr er l m w'
theorem vunpack_any (kt : Nat → Int) (B v k g p q f : Nat) (T : TT) (un : Value) (ul : List Nat) (rd : Nat → Bool) (bl : Nat → ByteArray) (w : World) (h : VK kt B v k g p q f T un ul rd bl w) (hT : Told1 T) (hle : T.L.es.length ≤ 16 ∧ lenE T.L.es ≤ 4096) (hG : Gd kt w) (hB : B ≤ w.heap.size) (h2 : v ≠ 2) :
    Calls Tryz.prog 27 #[.pointer (some ⟨v, 0, none⟩)] w fun e w' => ∃ vo er, e = .returned (.tuple #[vo, er]) ∧ VUn kt B v k g p q f T un ul rd bl w vo er w' := by
  obtain ⟨hv, dn, zs, bd, h⟩ := h
  have hF0 : Fr (fun j => j = v) w (w.setCell ⟨v, 0, none⟩ (.int .i32 1)) := (Fr.refl (fun j => j = v) w).set (.inl rfl) _ _
  refine Calls.mono (lk_unpack v k w (fun val w' => ∃ vo er, val = .tuple #[vo, er] ∧ VUn kt B v k g p q f T un ul rd bl w vo er w') hv ?_) ?_
  · refine Calls.mono (unpack_any kt B k g p q f T un ul rd bl dn zs bd _ (h.set hv (.inr rfl) _ _) hT hle (hG.fr hF0 (fun e => h2 e.symm)) (Nat.le_trans hB hF0.size)) ?_
    rintro e w' ⟨vo, er, l, F, n, H, m, rfl, ⟨⟨dn', zs', bd', hS⟩, hF, hO, hOe, hL, hLe⟩, hE⟩
    have hv1 : VL v k 1 w' := by
      have h1 := VL.one hv
      have hS1 := h.set hv (.inr rfl) 0 (.int .i32 1)
      unfold VL at h1 ⊢
      rw [hF.old v (Array.getElem?_eq_some_iff.1 h1).1 (fun e => by
        rcases e with e | e
        · exact row_ne h1 hS1.blR (by decide) e
        · exact row_ne h1 hS1.fiR (by decide) e)]
      exact h1
    have e1 : (w.setCell ⟨v, 0, none⟩ (.int .i32 1)).heap.size = w.heap.size := by simp [World.setCell]
    rw [e1] at hO hL
    refine ⟨_, _, rfl, hv1, vo, er, rfl, l, F, n, H, m, ⟨hv1.zero, dn', zs', bd', hS.set hv1 (.inr rfl) _ _⟩, ?_, own_setB hO hv1 (by decide) _, hOe, own_setB hL hv1 (by decide) _, hLe, ?_⟩
    · exact ((hF0.mono (T := fun j => j = q ∨ j = f ∨ j = v) (fun j _ e => .inr (.inr e))).trans' (hF.mono (fun j _ e => by rcases e with e | e; exact .inl e; exact .inr (.inl e)))).set (.inl (.inr (.inr rfl))) _ _
    · rcases hE with h0 | ⟨h0, eg, mg, h1, h3, h4⟩
      · exact .inl h0
      · exact .inr ⟨h0, eg, mg, h1, (set_other _ _ _ _ _ (row_ne h3 hv1 (by decide))).trans h3, (set_other _ _ _ _ _ (row_ne h4 hv1 (by decide))).trans h4⟩
  · rintro e w' ⟨a, b, rfl, vo, er, hval, h1⟩
    exact ⟨vo, er, by rw [hval], h1⟩
end Go.Proofs.YtadinjaocnlglaaGreatDoor
