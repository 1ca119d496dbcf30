/-
  Plain: what is whole is made as it was, and is whole again.
  The walk of Stock.data.
  The walk of Stock.data.
-/
import Derived.Test.YtadinjaocnlglaaGreatDoorZ40
import Derived.Test.YtadinjaocnlglaaGreatDoorZ41
namespace Go.Proofs.YtadinjaocnlglaaGreatDoor
open Go.RowKit
set_option maxRecDepth 100000
set_option maxHeartbeats 1000000
theorem reV_congr {kt : Nat → Int} {T : TT} {A B : Nat → ByteArray} (h : ∀ x, x < T.L.cnt → A x = B x) (hV : 1 ≤ T.L.V) {v : Nat} (hv : v < T.L.V) : reV kt T A v = reV kt T B v := by
  have hl : ∀ i, i < T.L.cnt → leafT (ofT kt) (A i) = leafT (ofT kt) (B i) := fun i hi => by rw [h i hi]
  have h1 : rootT (ofT kt) T.ls T.L.cnt (fun i => leafT (ofT kt) (A i)) = rootT (ofT kt) T.ls T.L.cnt (fun i => leafT (ofT kt) (B i)) := by
    unfold rootT
    rw [topT_congr (ofT kt) T.L.cnt T.L.cnt _ _ (Nat.le_refl _) hl]
  have h2 : jT (fun i => leafT (ofT kt) (A i)) T.L.cnt = jT (fun i => leafT (ofT kt) (B i)) T.L.cnt := jT_congr hl
  have h3 : jT (fun i => A (v * T.L.cnt / T.L.V + i)) ((v + 1) * T.L.cnt / T.L.V - v * T.L.cnt / T.L.V) = jT (fun i => B (v * T.L.cnt / T.L.V + i)) ((v + 1) * T.L.cnt / T.L.V - v * T.L.cnt / T.L.V) := jT_congr (fun i hi => by
    refine h _ ?_
    have : (v + 1) * T.L.cnt / T.L.V ≤ T.L.cnt := Nat.le_trans (Nat.div_le_div_right (Nat.mul_le_mul_right _ hv)) (by rw [Nat.mul_div_cancel_left _ hV]; exact Nat.le_refl _)
    omega)
  unfold reV volT toldT
  rw [h1, h2, h3]
/-- params and leaves that are the same -/
structure TEq (T T' : TT) : Prop where
  K : T'.L.K = T.L.K
  M : T'.L.M = T.L.M
  C : T'.L.C = T.L.C
  V : T'.L.V = T.L.V
  es : T'.L.es = T.L.es
  lv : T'.lv = T.lv
theorem TEq.n {T T' : TT} (h : TEq T T') : T'.n = T.n := by unfold TT.n; rw [h.K, h.M]
theorem TEq.cnt {T T' : TT} (h : TEq T T') : T'.L.cnt = T.L.cnt := by unfold LT.cnt; rw [h.K, h.M, h.C, h.es]
theorem TEq.ns {T T' : TT} (h : TEq T T') : T'.L.ns = T.L.ns := by unfold LT.ns; rw [h.K, h.C, h.es]
theorem TEq.stF {T T' : TT} (h : TEq T T') (kt : Nat → Int) (bl : Nat → ByteArray) (s : Nat) : stF kt T' bl s = Go.Proofs.YtadinjaocnlglaaGreatDoor.stF kt T bl s := by
  have e1 : stS T' bl s = stS T bl s := by unfold stS; rw [h.n]
  have e2 : stH kt T' bl s = stH kt T bl s := by unfold stH; rw [h.n, h.C, h.lv]
  unfold Go.Proofs.YtadinjaocnlglaaGreatDoor.stF
  rw [e1, e2, h.K, h.M, h.C, h.lv, h.es]
theorem TEq.reV {T T' : TT} (h : TEq T T') (kt : Nat → Int) (A : Nat → ByteArray) : reV kt T' A = Go.Proofs.YtadinjaocnlglaaGreatDoor.reV kt T A := by
  have e1 : T'.ls = T.ls := by unfold TT.ls; rw [h.K, h.M, h.C, h.V, h.es]
  unfold Go.Proofs.YtadinjaocnlglaaGreatDoor.reV
  rw [e1, h.cnt, h.V]
end Go.Proofs.YtadinjaocnlglaaGreatDoor
namespace Go.Proofs.YtadinjaocnlglaaGreatDoor
open Go.RowKit
set_option maxRecDepth 100000
set_option maxHeartbeats 4000000
/-- a stripe's data -/
def stD (kt : Nat → Int) (T : TT) (bl : Nat → ByteArray) (s : Nat) : ByteArray := jT (stM kt T bl s) T.L.K
/-- a byte of the stream -/
def byteS (kt : Nat → Int) (T : TT) (bl : Nat → ByteArray) (x : Nat) : UInt8 := (stD kt T bl (x / (T.L.K * T.L.C))).data.toList.getD (x % (T.L.K * T.L.C)) 0
/-- the stream from one place to another -/
def strS (kt : Nat → Int) (T : TT) (bl : Nat → ByteArray) (a b : Nat) : List UInt8 := (List.range (b - a)).map fun i => byteS kt T bl (a + i)
theorem strS_len (kt : Nat → Int) (T : TT) (bl : Nat → ByteArray) (a b : Nat) : (strS kt T bl a b).length = b - a := by simp [strS]
theorem strS_app (kt : Nat → Int) (T : TT) (bl : Nat → ByteArray) (a b c : Nat) (h1 : a ≤ b) (h2 : b ≤ c) : strS kt T bl a c = strS kt T bl a b ++ strS kt T bl b c := by
  unfold strS
  have e : c - a = (b - a) + (c - b) := by omega
  rw [e, List.range_add, List.map_append, List.map_map]
  congr 1
  apply List.map_congr_left
  intro i _
  show byteS kt T bl (a + (b - a + i)) = byteS kt T bl (b + i)
  congr 1
  omega
/-- a piece of one stripe -/
theorem strS_in {kt : Nat → Int} {T : TT} {bl : Nat → ByteArray} {s a b z : Nat} (hz : T.L.K * T.L.C = z) (h0 : s * z ≤ a) (h1 : a ≤ b) (h2 : b ≤ s * z + z) (hs : (stD kt T bl s).size = z) : ((stD kt T bl s).extract (a - s * z) (b - s * z)).data.toList = strS kt T bl a b := by
  rw [ext_list]
  apply List.ext_getElem?
  intro i
  unfold strS
  by_cases hi : i < b - a
  · rw [List.getElem?_take, if_pos (by omega), List.getElem?_drop, List.getElem?_map, List.getElem?_range hi]
    have hlt : a - s * z + i < z := by omega
    have hd := div_of (s := s) (n := z) (i := a - s * z + i) hlt
    have e : s * z + (a - s * z + i) = a + i := by omega
    rw [e] at hd
    show (stD kt T bl s).data.toList[a - s * z + i]? = some (byteS kt T bl (a + i))
    unfold byteS
    rw [hz, hd.1, hd.2, List.getD_eq_getElem?_getD, List.getElem?_eq_getElem (by rw [dl]; omega)]
    rfl
  · rw [List.getElem?_take, if_neg (by omega), List.getElem?_eq_none (by simp; omega)]
theorem bldAt_kept {B b : Nat} {p : Value} {bs : List Value} {w w' : World} (h : Lib.BuilderAtF 310 5 B b p bs w) (ho : ∀ (j : Nat) (cs : Array Value) (t : TypeId) (fz : Nat × Nat), t = 310 ∨ t = 5 → w.heap[j]? = some (.cells cs t fz) → w'.heap[j]? = some (.cells cs t fz)) : Lib.BuilderAtF 310 5 B b p bs w' := by
  obtain ⟨h1, v, h2, h3, h4⟩ := h
  refine ⟨h1, v, ho _ _ _ _ (.inl rfl) h2, ⟨h3.1, ?_⟩, h4⟩
  rcases h3.2 with h | ⟨g, cap, cur, fz, hv, hg, hh, rest⟩
  · exact .inl h
  · exact .inr ⟨g, cap, cur, fz, hv, hg, ho _ _ _ _ (.inr rfl) hh, rest⟩
theorem Bld.kept {b : Nat} {l : List UInt8} {w w' : World} (h : Bld b l w) (ho : ∀ (j : Nat) (cs : Array Value) (t : TypeId) (fz : Nat × Nat), t = 310 ∨ t = 5 → w.heap[j]? = some (.cells cs t fz) → w'.heap[j]? = some (.cells cs t fz)) : Bld b l w' := by
  rcases h with h | h
  · exact .inl (bldAt_kept h ho)
  · exact .inr (bldAt_kept h ho)
theorem row_neF {w : World} {a b : Nat} {cs cs' : Array Value} {t t' : TypeId} {fz fz' : Nat × Nat} (h : w.heap[a]? = some (.cells cs t fz)) (h' : w.heap[b]? = some (.cells cs' t' fz')) (ht : t ≠ t') : a ≠ b := fun e => by
  rw [e, h'] at h
  simp only [Option.some.injEq, Obj.cells.injEq] at h
  exact ht h.2.1.symm
/-- a Builder beside a Stock whose stripes are worked out -/
theorem VS.bld {kt : Nat → Int} {B k g p q f : Nat} {T : TT} {un : Value} {ul : List Nat} {rd : Nat → Bool} {bl : Nat → ByteArray} {dn : Nat → Bool} {zs : Nat → Nat} {bd : Nat → Value} {w w' : World} {b : Nat} {l : List UInt8} (h : VS kt B k g p q f T un ul rd bl dn zs bd w) (hb : Bld b l w) (hF : Fr (fun j => j = q ∨ j = f) w w') : Bld b l w' :=
  hb.kept (fun j cs t fz ht hj => by
    rw [hF.old j (Array.getElem?_eq_some_iff.1 hj).1 (fun e => by
      rcases e with e | e
      · exact row_neF hj h.blR (by rcases ht with e | e <;> simp [e]) e
      · exact row_neF hj h.fiR (by rcases ht with e | e <;> simp [e]) e)]
    exact hj)
/-- a Stock beside a Builder that was written -/
theorem VS.oth {kt : Nat → Int} {B k g p q f : Nat} {T : TT} {un : Value} {ul : List Nat} {rd : Nat → Bool} {bl : Nat → ByteArray} {dn : Nat → Bool} {zs : Nat → Nat} {bd : Nat → Value} {w w' : World} {b : Nat} {cs0 : Array Value} (h : VS kt B k g p q f T un ul rd bl dn zs bd w) (hb : w.heap[b]? = some (.cells cs0 310 (0, 0))) (hO : Oth b w w') : VS kt B k g p q f T un ul rd bl dn zs bd w' :=
  h.kept (fun j cs t ht hj => hO.row hj (row_ne hj hb (by rcases ht with e | e | e | e | e | e | e <;> simp [e])) (by rcases ht with e | e | e | e | e | e | e <;> simp [e])) (fun j hj => by
    have h3 : ∃ cur, w.heap[j]? = some (.cells cur 3 (0, 0)) := by
      rcases hj with e | ⟨s, hs, hd, e⟩
      · exact own_type h.unO j e
      · exact own_type (h.fn s hs hd).2 j e
    obtain ⟨cur, hcur⟩ := h3
    rw [hO.row hcur (row_ne hcur hb (by decide)) (by decide), hcur])
theorem Bld.row {b : Nat} {l : List UInt8} {w : World} (h : Bld b l w) : ∃ cs, w.heap[b]? = some (.cells cs 310 (0, 0)) := by
  rcases h with ⟨_, v, h2, _⟩ | ⟨_, v, h2, _⟩
  · exact ⟨_, h2⟩
  · exact ⟨_, h2⟩
end Go.Proofs.YtadinjaocnlglaaGreatDoor
namespace Go.Proofs.YtadinjaocnlglaaGreatDoor
open Go.RowKit
set_option maxRecDepth 100000
set_option maxHeartbeats 8000000
theorem Fr.thenLow {S : Nat → Prop} {w w1 w2 : World} {c : Nat} (h : Fr S w w1) (hb : Below c w1 w2) (hc : w.heap.size ≤ c) : Fr S w w2 :=
  h.trans (S1 := fun j => S j ∨ w.heap.size ≤ j) (fun _ hj => hj) ⟨hb.size, fun j _ hn => hb.block j (Nat.lt_of_lt_of_le (Nat.lt_of_not_le (fun h => hn (.inr h))) hc), ⟨hb.os, hb.tape, hb.output⟩⟩
def DDid (kt : Nat → Int) (B k g p q f : Nat) (T : TT) (un : Value) (ul : List Nat) (rd : Nat → Bool) (bl : Nat → ByteArray) (a b : Nat) (w : World) (e : Ending) (w' : World) : Prop :=
  (∃ (dn' : Nat → Bool) (zs' : Nat → Nat) (bd' : Nat → Value), VS kt B k g p q f T un ul rd bl dn' zs' bd' w') ∧ Fr (fun j => j = q ∨ j = f) w w' ∧
    (((∀ x, a ≤ x → x < b → stF kt T bl (x / (T.L.K * T.L.C)) = 0) ∧ e = .returned (.tuple #[.string ⟨(strS kt T bl a b).toArray⟩, .bool true])) ∨ ((∃ x, a ≤ x ∧ x < b ∧ stF kt T bl (x / (T.L.K * T.L.C)) ≠ 0) ∧ e = .returned (.tuple #[.string ⟨#[]⟩, .bool false])))
theorem data_any (kt : Nat → Int) (B k g p q f a b : Nat) (T : TT) (un : Value) (ul : List Nat) (rd : Nat → Bool) (bl : Nat → ByteArray) (dn : Nat → Bool) (zs : Nat → Nat) (bd : Nat → Value) (w : World) (h : VS kt B k g p q f T un ul rd bl dn zs bd w) (hT : Told1 T) (hle : T.L.es.length ≤ 16 ∧ lenE T.L.es ≤ 4096) (hG : Gd kt w) (hB : B ≤ w.heap.size) (hab : a ≤ b) (hb : b ≤ lenE T.L.es) :
    Calls Tryz.prog 177 #[.pointer (some ⟨k, 0, none⟩), .int .i64 a, .int .i64 b] w fun e w' => DDid kt B k g p q f T un ul rd bl a b w e w' := by
  have H : Hid _ := h
  obtain ⟨aE, kE, num, first, vB, hg, hoE⟩ := h.hd
  have hk1 := hT.k1; have hkm := hT.km; have hc1 := hT.c1; have hc64 := hT.c64; have hcnt := hT.cnt
  obtain ⟨K, hKe⟩ : ∃ x, T.L.K = x := ⟨_, rfl⟩
  obtain ⟨M, hMe⟩ : ∃ x, T.L.M = x := ⟨_, rfl⟩
  obtain ⟨C, hCe⟩ : ∃ x, T.L.C = x := ⟨_, rfl⟩
  obtain ⟨V, hVe⟩ : ∃ x, T.L.V = x := ⟨_, rfl⟩
  have c0 : w.cell? ⟨k, 0, none⟩ = some (.pointer (some ⟨g, 0, none⟩)) := cell_of_row _ _ _ _ 224 _ h.row
  rw [hKe, hMe, hCe, hVe] at hg
  rw [hKe] at hk1 hkm
  rw [hMe] at hkm
  rw [hCe] at hc1 hc64
  have c2 : w.cell? ⟨g, 2, none⟩ = some (.int .i64 K) := cell_of_row _ _ _ _ 319 _ hg
  have c3 : w.cell? ⟨g, 3, none⟩ = some (.int .i64 M) := cell_of_row _ _ _ _ 319 _ hg
  have c4 : w.cell? ⟨g, 4, none⟩ = some (.int .i64 C) := cell_of_row _ _ _ _ 319 _ hg
  have c5 : w.cell? ⟨g, 5, none⟩ = some (.int .i64 V) := cell_of_row _ _ _ _ 319 _ hg
  obtain ⟨z, hz⟩ : ∃ z, K * C = z := ⟨_, rfl⟩
  have hz1 : 1 ≤ z := by rw [← hz]; exact Nat.mul_pos hk1 hc1
  have hz2 : z ≤ 16320 := by rw [← hz]; exact Nat.le_trans (Nat.mul_le_mul (show K ≤ 255 by omega) hc64) (by omega)
  have hzI : (K : Int) * (C : Int) = (z : Int) := by rw [← hz]; simp
  have hzT : T.L.K * T.L.C = z := by rw [hKe, hCe]; exact hz
  obtain ⟨n, hn⟩ : ∃ n, K + M = n := ⟨_, rfl⟩
  have hnT : T.n = n := by unfold TT.n; rw [hKe, hMe]; exact hn
  have hn0 : 0 < T.n := by rw [hnT]; omega
  have hnI : (K : Int) + (M : Int) = (n : Int) := by omega
  obtain ⟨cn, hcn⟩ : ∃ x, T.L.cnt = x := ⟨_, rfl⟩
  have hnsn : T.L.ns * n = cn := by rw [← hcn, ← hnT]; rfl
  rw [hcn] at hcnt
  have hns : ∀ x, x < b → x / z < T.L.ns := fun x hx => by
    have h1 : T.L.ns = nst z (lenE T.L.es) := by unfold LT.ns; rw [hzT]
    rw [h1]
    unfold nst
    rw [Nat.div_lt_iff_lt_mul hz1]
    have h2 := Nat.div_add_mod (lenE T.L.es + z - 1) z
    have h3 := Nat.mod_lt (lenE T.L.es + z - 1) hz1
    rw [Nat.mul_comm] at h2
    omega
  obtain ⟨W, hW⟩ : ∃ W, w.alloc (.cells #[.int .i64 K, .int .i64 M, .int .i64 C, .int .i64 V] 23) = W := ⟨_, rfl⟩
  obtain ⟨Y, hY⟩ : ∃ Y, W.alloc (.cells #[.pointer none, .slice none 0 0] 310) = Y := ⟨_, rfl⟩
  have hbW : Below w.heap.size w W := by rw [← hW]; exact (Below.refl _ _).alloc (Nat.le_refl _) _
  have hbY : Below W.heap.size W Y := by rw [← hY]; exact (Below.refl _ _).alloc (Nat.le_refl _) _
  obtain ⟨P, hP⟩ : ∃ P, w.heap.size = P := ⟨_, rfl⟩
  have hPW : W.heap[P]? = some (.cells #[.int .i64 K, .int .i64 M, .int .i64 C, .int .i64 V] 23 (0, 0)) := by rw [← hW, ← hP]; exact heap_alloc_new _ _
  have hWs : W.heap.size = P + 1 := by rw [← hW, ← hP]; simp
  have hPY : Y.heap[P]? = some (.cells #[.int .i64 K, .int .i64 M, .int .i64 C, .int .i64 V] 23 (0, 0)) := (hbY.block P (by omega)).trans hPW
  have hbld : Bld (P + 1) [] Y := by rw [← hY, ← hWs]; exact Bld.fresh W
  have x0 : W.cell? ⟨P, 0, none⟩ = some (.int .i64 K) := cell_of_row _ _ _ _ 23 _ hPW
  have x2 : W.cell? ⟨P, 2, none⟩ = some (.int .i64 C) := cell_of_row _ _ _ _ 23 _ hPW
  have HY : Hid (Below w.heap.size w Y) := hbW.trans (hbY.mono hbW.size)
  have HPY : Hid _ := hPY
  have HBL : Hid _ := hbld
  have HP : Hid (w.heap.size = P) := hP
  have HWS : Hid _ := hWs
  have HHY : Hid _ := hY
  have HLE : Hid _ := hle
  clear h hg hoE hbW hbY hPW hPY hbld hY hWs
  go_enter Tryz.func177, Tryz.ntmps177
  go_wp2_with fail
  obtain ⟨b0, hb0⟩ : ∃ x, P + 1 = x := ⟨_, rfl⟩
  rw [HHY.out, HWS.out, hb0]
  rw [hb0] at HBL
  have hPb : P < b0 := by omega
  clear x0 x2 c0 c2 c3 c4 c5 hW hb0
  go_loopw [1] (fun xv wr => ∃ (x : Nat) (dn' : Nat → Bool) (zs' : Nat → Nat) (bd' : Nat → Value), a ≤ x ∧ x ≤ b ∧ xv = .int .i64 x ∧ VS kt B k g p q f T un ul rd bl dn' zs' bd' wr ∧ Bld b0 (strS kt T bl a x) wr ∧ wr.heap[P]? = some (.cells #[.int .i64 K, .int .i64 M, .int .i64 C, .int .i64 V] 23 (0, 0)) ∧ Fr (fun j => j = q ∨ j = f) w wr ∧ ∀ y, a ≤ y → y < x → stF kt T bl (y / z) = 0) (fun xv _ => b - (intOf xv).toNat)
  case atStart => exact ⟨a, dn, zs, bd, Nat.le_refl _, hab, rfl, H.out.below HY.out, by rw [show strS kt T bl a a = [] by simp [strS]]; exact HBL.out, HPY.out, Fr.below HY.out, fun y h1 h2 => by omega⟩
  case round =>
    obtain ⟨x, dn1, zs1, bd1, hax, hxb, rfl, hV, hBl, hPr, hF, hok⟩ := hrel
    have HV : Hid _ := hV
    have HBl : Hid _ := hBl
    have HPr : Hid _ := hPr
    have HF : Hid _ := hF
    have HOK : Hid _ := hok
    by_cases hlt : x < b
    · have hlt' : (x : Int) < (b : Int) := by omega
      have hd := wrap_div x z (by omega)
      have hz0 : ((z : Int) == 0) = false := by simp; omega
      obtain ⟨s, hs⟩ : ∃ s, x / z = s := ⟨_, rfl⟩
      rw [hs] at hd
      have hin := in_stripe hz1 hs
      have hsn : s < T.L.ns := by rw [← hs]; exact hns x hlt
      have HST : Hid _ := stripe_any kt B k g p q f s T un ul rd bl dn1 zs1 bd1 wr hV hT HLE.out (H.out.gd hG hF) (Nat.le_trans hB hF.size) hsn
      have HS : Hid _ := hs
      clear hV hBl hPr hF hok hs
      go_wp2_with fail
      refine Calls.mono HST.out ?_
      rintro e w1 ⟨zs2, bd2, rfl, hV2, hF2, _, _⟩
      have hds : updB dn1 s true s = true := by simp [updB]
      obtain ⟨zr, _⟩ := hV2.fn s hsn hds
      obtain ⟨fa, hfa⟩ : ∃ x, stF kt T bl s = x := ⟨_, rfl⟩
      obtain ⟨zq, hzq⟩ : ∃ x, zs2 s = x := ⟨_, rfl⟩
      rw [hfa, hzq] at zr
      rw [hzq]
      have d1 : w1.cell? ⟨zq, 1, none⟩ = some (.int .i64 fa) := cell_of_row _ _ _ _ 231 _ zr
      have HV2 : Hid _ := hV2
      have HFA : Hid _ := hfa
      have HB2 : Hid (Bld b0 (strS kt T bl a x) w1) := HV.out.bld HBl.out hF2
      have HP2 : Hid (w1.heap[P]? = some (.cells #[.int .i64 K, .int .i64 M, .int .i64 C, .int .i64 V] 23 (0, 0))) := by
        show w1.heap[P]? = _
        rw [hF2.old P (Array.getElem?_eq_some_iff.1 HPr.out).1 (fun e => by
          rcases e with e | e
          · exact row_ne HPr.out HV.out.blR (by decide) e
          · exact row_ne HPr.out HV.out.fiR (by decide) e)]
        exact HPr.out
      have HF2 : Hid _ := HF.out.trans' hF2
      clear hV2 hF2 zr hzq hfa
      by_cases hf0 : fa = 0
      · have hf0' : ((fa : Int) != 0) = false := by simp [hf0]
        have HF0 : Hid (stF kt T bl s = 0) := HFA.out.trans hf0
        obtain ⟨bg, hbg⟩ : ∃ y, s * z = y := ⟨_, rfl⟩
        rw [hbg] at hin
        have hbgI : (s : Int) * (z : Int) = (bg : Int) := by rw [← hbg]; simp
        obtain ⟨u, hu⟩ : ∃ y, min b (bg + z) = y := ⟨_, rfl⟩
        have huI : min (b : Int) ((bg : Int) + (z : Int)) = (u : Int) := by omega
        obtain ⟨o, ho⟩ : ∃ y, s * n = y := ⟨_, rfl⟩
        have hoI : (s : Int) * (n : Int) = (o : Int) := by rw [← ho]; simp
        have hon : o + n ≤ cn := by rw [← hnsn, ← ho, ← Nat.succ_mul]; exact Nat.mul_le_mul_right n hsn
        have hoc : o < cn := by omega
        have hsl : ∀ X, (Instr.slice 42 (.slice (some ⟨q, 0, none⟩) cn cn) (some (.int .i64 (o : Nat))) none none).run Tryz.prog X = .ok (.slice (some ⟨q, o, none⟩) (cn - o) (cn - o)) X := fun X => by
          rw [tail_run X q cn o (by omega)]
          unfold tailT
          rw [if_neg (by omega)]
        obtain ⟨rm, hrm⟩ : ∃ y, cn - o = y := ⟨_, rfl⟩
        rw [hrm] at hsl
        have hKr : (K : Int) ≤ (rm : Int) := by omega
        have m3 : w1.cell? ⟨k, 3, none⟩ = some (.slice (some ⟨q, 0, none⟩) cn cn) := by rw [← hcn]; exact cell_of_row _ _ _ _ 224 _ HV2.out.row
        have m0 : w1.cell? ⟨P, 0, none⟩ = some (.int .i64 K) := cell_of_row _ _ _ _ 23 _ HP2.out
        have m1 : w1.cell? ⟨P, 1, none⟩ = some (.int .i64 M) := cell_of_row _ _ _ _ 23 _ HP2.out
        have HBG : Hid _ := hbg
        have HOO : Hid _ := ho
        have HU : Hid _ := hu
        have hs5 : s ≤ 512 := by
          have h1 : s * 1 ≤ s * n := Nat.mul_le_mul_left s (by omega)
          omega
        have hbg2 : bg ≤ 4096 := by omega
        clear hf0 hbg ho hu
        go_wp2_with fail
        go_quiet (fail)
        go_wp2_with fail
        obtain ⟨w2, hw2⟩ : ∃ X, w1.drewN nq = X := ⟨_, rfl⟩
        have hb2 : Below w1.heap.size w1 w2 := by rw [← hw2]; exact below_drewN (Below.refl _ _) _
        rw [hw2]
        have hV3 := HV2.out.below hb2
        have HV3 : Hid _ := hV3
        have HB3 : Hid (Bld b0 (strS kt T bl a x) w2) := Bld.below HB2.out hb2
        have HP3 : Hid (w2.heap[P]? = some (.cells #[.int .i64 K, .int .i64 M, .int .i64 C, .int .i64 V] 23 (0, 0))) := (hb2.block P (Array.getElem?_eq_some_iff.1 HP2.out).1).trans HP2.out
        have HF3 : Hid _ := HF2.out.thenBelow hb2
        have hwk := whole_ok HF0.out
        have hsz : ∀ i, i < n → (stM kt T bl s i).size = C := fun i hi => by rw [← hCe]; exact goodB_size (hwk.1 i (by rw [hnT]; exact hi)).1
        have hcell : ∀ i, i < K → w2.cell? ⟨q, o + i, none⟩ = some (.string (stM kt T bl s i)) := fun i hi => by
          have hc := hV3.blR.cell (o + i) (by rw [hcn]; omega)
          rw [hc]
          show some (Value.string (blD kt T bl (updB dn1 s true) (o + i))) = _
          have hdv := div_of (s := s) (n := T.n) (i := i) (by rw [hnT]; omega)
          rw [show s * T.n + i = o + i by rw [hnT, HOO.out]] at hdv
          unfold blD
          rw [hdv.1, hdv.2, if_pos ⟨hds, HF0.out⟩]
        have HJ : Hid _ := sjoin_any (stM kt T bl s) q o K rm C w2 (Array.getElem?_eq_some_iff.1 hV3.blR).1 (by omega) (by omega) (by omega) (fun i hi => Nat.le_of_eq (hsz i (by omega))) hcell
        have hDz : (stD kt T bl s).size = z := by unfold stD; rw [hKe, ← hz]; exact jT_eq _ C K (fun i hi => hsz i (by omega))
        have hDe : jT (stM kt T bl s) K = stD kt T bl s := by unfold stD; rw [hKe]
        rw [hDe] at HJ
        obtain ⟨lo, hlo⟩ : ∃ y, x - bg = y := ⟨_, rfl⟩
        obtain ⟨hi, hhi⟩ : ∃ y, u - bg = y := ⟨_, rfl⟩
        have hu2 := HU.out
        have hloI : (x : Int) - (bg : Int) = (lo : Int) := by omega
        have hhiI : (u : Int) - (bg : Int) = (hi : Int) := by omega
        have HPC : Hid (((stD kt T bl s).extract lo hi).data.toList = strS kt T bl x u) := by
          have := strS_in (kt := kt) (bl := bl) (s := s) (a := x) (b := u) hzT (by rw [HBG.out]; omega) (by omega) (by rw [HBG.out]; omega) hDz
          rw [HBG.out, hlo, hhi] at this
          exact this
        obtain ⟨D, hD⟩ : ∃ D, stD kt T bl s = D := ⟨_, rfl⟩
        rw [hD] at HJ HPC hDz
        have hsl2 : ∀ X, (Instr.slice 9 (.string D) (some (.int .i64 ((lo : Nat) : Int))) (some (.int .i64 ((hi : Nat) : Int))) none).run Tryz.prog X = .ok (.string (D.extract lo hi)) X := fun X => by
          rw [run_slice_string X 9 D .i64 .i64 _ _ Tryz.underlying9 (by omega) (by omega) (by omega), Int.toNat_natCast, Int.toNat_natCast]
        have hxu : x < u := by omega
        have hub : u ≤ b := by omega
        have hubg : u ≤ bg + z := by omega
        clear hw2 hb2 hV3 hwk hsz hcell hDe hD hlo hhi m0 m1 m3 d1 hsl
        refine Calls.mono HJ.out ?_
        rintro e w3 ⟨rfl, hb3⟩
        have HV4 : Hid _ := HV3.out.below hb3
        have HB4 : Hid (Bld b0 (strS kt T bl a x) w3) := Bld.below HB3.out hb3
        have HP4 : Hid (w3.heap[P]? = some (.cells #[.int .i64 K, .int .i64 M, .int .i64 C, .int .i64 V] 23 (0, 0))) := (hb3.block P (Array.getElem?_eq_some_iff.1 HP3.out).1).trans HP3.out
        have HF4 : Hid _ := HF3.out.thenBelow hb3
        clear hb3
        go_wp2_with fail
        refine Calls.mono (wstr_any b0 (strS kt T bl a x) (D.extract lo hi) w3 HB4.out (by rw [strS_len, ByteArray.size_extract]; omega)) ?_
        rintro e w4 ⟨rfl, hBl4, hB4, hO4⟩
        obtain ⟨cs0, hcs0⟩ := Bld.row HB4.out
        have HV5 : Hid _ := HV4.out.oth hcs0 hO4
        have HP5 : Hid (w4.heap[P]? = some (.cells #[.int .i64 K, .int .i64 M, .int .i64 C, .int .i64 V] 23 (0, 0))) := hO4.row HP4.out (by omega) (by decide)
        have HF5 : Hid _ := HF4.out.thenLow hB4 (by rw [HP.out]; omega)
        have HB5 : Hid (Bld b0 (strS kt T bl a u) w4) := by
          show Bld b0 (strS kt T bl a u) w4
          rw [strS_app kt T bl a x u hax (by omega), ← HPC.out]
          exact hBl4
        clear hBl4 hB4 hO4 hcs0
        go_wp2_with fail
        go_roundw
        case rel => exact ⟨u, _, _, _, by omega, hub, rfl, HV5.out, HB5.out, HP5.out, HF5.out, fun y h1 h2 => by
          by_cases hyx : y < x
          · exact HOK.out y h1 hyx
          · have hy := div_of (s := s) (n := z) (i := y - bg) (by omega)
            rw [show s * z + (y - bg) = y by rw [HBG.out]; omega] at hy
            rw [hy.1]; exact HF0.out⟩
        case measure => simp [intOf]; omega
      · have hf0' : ((fa : Int) != 0) = true := by simp; omega
        have HN0 : Hid (stF kt T bl (x / (T.L.K * T.L.C)) ≠ 0) := by show stF kt T bl (x / (T.L.K * T.L.C)) ≠ 0; rw [hzT, HS.out, HFA.out]; exact hf0
        clear hf0
        go_wp2_with fail
        go_ret2
        exact ⟨⟨_, _, _, HV2.out⟩, HF2.out, .inr ⟨⟨x, hax, hlt, HN0.out⟩, rfl⟩⟩
    · have ex : x = b := by omega
      subst ex
      go_wp2_with fail
      refine Calls.mono (bstr_k b0 b0 _ wr HBl.out (Nat.le_of_lt (Bld.lt HBl.out))) ?_
      rintro e w1 ⟨rfl, _, hB1, hO1⟩
      obtain ⟨cs0, hcs0⟩ := Bld.row HBl.out
      have HV1 : Hid _ := HV.out.oth hcs0 hO1
      have HF1 : Hid _ := HF.out.thenLow hB1 (by rw [HP.out]; omega)
      clear hB1 hO1 hcs0 hV hBl hPr hF hok
      go_wp2_with fail
      go_ret2
      exact ⟨⟨_, _, _, HV1.out⟩, HF1.out, .inl ⟨fun y h1 h2 => by rw [hzT]; exact HOK.out y h1 h2, rfl⟩⟩
end Go.Proofs.YtadinjaocnlglaaGreatDoor
