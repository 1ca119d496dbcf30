/-
  strings.Trim, where it cuts off bytes 0: is anything left?
  stripe.Restore of blocks that lie amid a greater row; and where there are too few.
  The walks of Head.Leaf and Stock.isGood.
  The walk of Stock.isForged.
-/
import Derived.Test.YtadinjaocnlglaaGreatDoorZ18
import Derived.Test.YtadinjaocnlglaaGreatDoorZ19
import Derived.Test.YtadinjaocnlglaaGreatDoorZ25
namespace Go.Proofs.YtadinjaocnlglaaGreatDoor
open Go.RowKit
set_option maxRecDepth 100000
set_option maxHeartbeats 1000000
def AllZ (t : ByteArray) : Prop := ∀ (j : Nat) (h : j < t.size), t[j].toNat = 0
theorem AllZ.nil {t : ByteArray} (h : t.size = 0) : AllZ t := fun j hj => by omega
theorem allZ_tail {t : ByteArray} (h : 0 < t.size) (h0 : t[0].toNat = 0) : AllZ (t.extract 1 t.size) ↔ AllZ t := by
 constructor
 ·intro hz j hj
  cases j with
  | zero => exact h0
  | succ j =>
   have := hz j (by rw [ByteArray.size_extract]; omega)
   rw [ByteArray.getElem_extract] at this
   simpa [Nat.add_comm] using this
 ·intro hz j hj
  rw [ByteArray.getElem_extract]
  exact hz _ _
theorem allZ_init {t : ByteArray} {m : Nat} (h : m < t.size) (hm : t.size = m + 1) (h0 : t[m].toNat = 0) : AllZ (t.extract 0 m) ↔ AllZ t := by
 constructor
 ·intro hz j hj
  by_cases e : j = m
  ·subst e; exact h0
  ·have := hz j (by rw [ByteArray.size_extract]; omega)
   rw [ByteArray.getElem_extract] at this
   simpa using this
 ·intro hz j hj
  rw [ByteArray.getElem_extract]
  exact hz _ _
def zlF : Nat → ByteArray → ByteArray
 | 0, t => t
 | f + 1, t => if h : 0 < t.size then if t[0].toNat = 0 then zlF f (t.extract 1 t.size) else t else t
def zl (t : ByteArray) : ByteArray := zlF t.size t
def zrF : Nat → ByteArray → ByteArray
 | 0, t => t
 | f + 1, t => if h : f < t.size then if t[f].toNat = 0 then zrF f (t.extract 0 f) else t else t
def zr (t : ByteArray) : ByteArray := zrF t.size t
theorem zl_step {t : ByteArray} (h : 0 < t.size) (h0 : t[0].toNat = 0) : zl (t.extract 1 t.size) = zl t := by
 unfold zl
 have e : (t.extract 1 t.size).size = t.size - 1 := by rw [ByteArray.size_extract]; omega
 rw [e]
 obtain ⟨m, hm⟩ : ∃ m, t.size = m + 1 := ⟨t.size - 1, by omega⟩
 conv => rhs; rw [hm]
 rw [zlF, dif_pos h, if_pos h0, hm]
 rfl
theorem zl_stop {t : ByteArray} (h : 0 < t.size) (h0 : ¬ t[0].toNat = 0) : zl t = t := by
 unfold zl
 obtain ⟨m, hm⟩ : ∃ m, t.size = m + 1 := ⟨t.size - 1, by omega⟩
 rw [hm, zlF, dif_pos h, if_neg h0]
theorem zl_nil {t : ByteArray} (h : t.size = 0) : zl t = t := by
 unfold zl
 rw [h]; rfl
theorem zr_step {t : ByteArray} {m : Nat} (h : m < t.size) (hm : t.size = m + 1) (h0 : t[m].toNat = 0) : zr (t.extract 0 m) = zr t := by
 unfold zr
 have e : (t.extract 0 m).size = m := by rw [ByteArray.size_extract]; omega
 rw [e]
 conv => rhs; rw [hm]
 rw [zrF, dif_pos h, if_pos h0]
theorem zr_stop {t : ByteArray} {m : Nat} (h : m < t.size) (hm : t.size = m + 1) (h0 : ¬ t[m].toNat = 0) : zr t = t := by
 unfold zr
 rw [hm, zrF, dif_pos h, if_neg h0]
theorem zr_nil {t : ByteArray} (h : t.size = 0) : zr t = t := by
 unfold zr
 rw [h]; rfl
theorem zl_all : ∀ (n : Nat) (t : ByteArray), t.size = n → ((zl t).size = 0 ↔ AllZ t)
 | 0, t, h => ⟨fun _ => AllZ.nil h, fun _ => by rw [zl_nil h]; exact h⟩
 | n + 1, t, h => by
  have hp : 0 < t.size := by omega
  by_cases h0 : t[0].toNat = 0
  ·rw [← zl_step hp h0, zl_all n _ (by rw [ByteArray.size_extract]; omega), allZ_tail hp h0]
  ·rw [zl_stop hp h0]
   exact ⟨fun e => absurd e (by omega), fun hz => absurd (hz 0 hp) h0⟩
theorem zr_all : ∀ (n : Nat) (t : ByteArray), t.size = n → (AllZ (zr t) ↔ AllZ t) ∧ (zr t).size ≤ n
 | 0, t, h => by rw [zr_nil h]; exact ⟨Iff.rfl, by omega⟩
 | n + 1, t, h => by
  have hp : n < t.size := by omega
  by_cases h0 : t[n].toNat = 0
  ·have ih := zr_all n (t.extract 0 n) (by rw [ByteArray.size_extract]; omega)
   rw [zr_step hp h h0] at ih
   exact ⟨ih.1.trans (allZ_init hp h h0), by omega⟩
  ·rw [zr_stop hp h h0]
   exact ⟨Iff.rfl, by omega⟩
def strL : Value → Nat
 | .string t => t.size
 | _ => 0
theorem txt_ne {a b : ByteArray} (h : a ≠ b) : (a.toList == b.toList) = false := by
 rw [beq_eq_false_iff_ne]
 intro e
 exact h (ByteArray.ext (by rw [ByteArray.toList_eq, ByteArray.toList_eq] at e; exact Array.toList_inj.1 e))
theorem trimL (s : ByteArray) (w : World) : Calls Tryz.prog 294 #[.string s, .int .u8 0] w fun e w' => e = .returned (.string (zl s)) ∧ w' = w := by
 go_enter Tryz.func294, Tryz.ntmps294
 go_wp2
 go_loop [0] (fun v => ∃ t : ByteArray, v = .string t ∧ t.size ≤ s.size ∧ zl t = zl s) (fun v => strL v)
 case atStart => exact ⟨s, rfl, Nat.le_refl _, rfl⟩
 case round =>
  obtain ⟨t, rfl, ht, hz⟩ := hrel
  have HZ : Hid _ := hz
  clear hz
  by_cases h0 : 0 < t.size
  ·obtain ⟨b, hb⟩ : ∃ b : Nat, t[0].toNat = b := ⟨_, rfl⟩
   by_cases hb0 : b = 0
   ·have hbb : ((b : Int) == 0) = true := by simp [hb0]
    have HT : Hid _ := zl_step h0 (hb.trans hb0)
    clear hb0
    go_wp2
    go_round
    case rel => exact ⟨_, rfl, by rw [ByteArray.size_extract]; omega, HT.out.trans HZ.out⟩
    case measure => simp [strL, ByteArray.size_extract]; omega
   ·have hbb : ((b : Int) == 0) = false := by simp; omega
    have HT : Hid _ := zl_stop h0 (fun e => hb0 (hb.symm.trans e))
    clear hb0
    go_wp2
    go_ret
    exact ⟨by rw [← HZ.out, HT.out]; rfl, rfl⟩
  ·have e0 : t.size = 0 := by omega
   have HT : Hid _ := zl_nil e0
   go_wp2
   go_ret
   exact ⟨by rw [← HZ.out, HT.out]; rfl, rfl⟩
theorem trimR (s : ByteArray) (w : World) (hs : s.size ≤ 1000000000) : Calls Tryz.prog 295 #[.string s, .int .u8 0] w fun e w' => e = .returned (.string (zr s)) ∧ w' = w := by
 go_enter Tryz.func295, Tryz.ntmps295
 go_wp2
 go_loop [0] (fun v => ∃ t : ByteArray, v = .string t ∧ t.size ≤ s.size ∧ zr t = zr s) (fun v => strL v)
 case atStart => exact ⟨s, rfl, Nat.le_refl _, rfl⟩
 case round =>
  obtain ⟨t, rfl, ht, hz⟩ := hrel
  have HZ : Hid _ := hz
  clear hz
  by_cases h0 : 0 < t.size
  ·obtain ⟨m, hm⟩ : ∃ m, t.size = m + 1 := ⟨t.size - 1, by omega⟩
   have hmt : m < t.size := by omega
   have hsub : (t.size : Int) - 1 = (m : Int) := by omega
   obtain ⟨b, hb⟩ : ∃ b : Nat, t[m].toNat = b := ⟨_, rfl⟩
   by_cases hb0 : b = 0
   ·have hbb : ((b : Int) == 0) = true := by simp [hb0]
    have HT : Hid _ := zr_step hmt hm (hb.trans hb0)
    have HM : Hid _ := hm
    clear hb0 hm
    go_wp2
    go_round
    case rel => exact ⟨_, rfl, by rw [ByteArray.size_extract]; omega, HT.out.trans HZ.out⟩
    case measure => simp [strL, ByteArray.size_extract]; omega
   ·have hbb : ((b : Int) == 0) = false := by simp; omega
    have HT : Hid _ := zr_stop hmt hm (fun e => hb0 (hb.symm.trans e))
    clear hb0 hm
    go_wp2
    go_ret
    exact ⟨by rw [← HZ.out, HT.out]; rfl, rfl⟩
  ·have e0 : t.size = 0 := by omega
   have HT : Hid _ := zr_nil e0
   go_wp2
   go_ret
   exact ⟨by rw [← HZ.out, HT.out]; rfl, rfl⟩
def tz (s : ByteArray) : ByteArray := zl (zr s)
theorem tz_nil (s : ByteArray) : (tz s).size = 0 ↔ AllZ s := (zl_all _ _ rfl).trans (zr_all _ _ rfl).1
theorem trim0 (s : ByteArray) (w : World) (hs : s.size ≤ 1000000000) : Calls Tryz.prog 261 #[.string s, .string ⟨#[0]⟩] w fun e w' => e = .returned (.string (tz s)) ∧ ∃ q, w' = w.drewN q := by
 by_cases h0 : s.size = 0
 ·have e : s = ⟨#[]⟩ := ByteArray.ext (Array.eq_empty_of_size_eq_zero h0)
  subst e
  go_enter Tryz.func261, Tryz.ntmps261
  go_wp2
  go_ret
  exact ⟨rfl, 0, rfl⟩
 ·have hne : (s.toList == (⟨#[]⟩ : ByteArray).toList) = false := txt_ne (fun e => h0 (by rw [e]; rfl))
  have hq1 : ¬ s.toList = [] := fun e => h0 (by rw [ByteArray.toList_eq] at e; have := congrArg List.length e; simpa using this)
  have hq2 : s.toList.isEmpty = false := by simpa using hq1
  have hz : (zr s).size ≤ 1000000000 := Nat.le_trans (zr_all _ _ rfl).2 hs
  have HZ : Hid _ := hz
  have HS : Hid _ := hs
  clear hz hs
  go_enter Tryz.func261, Tryz.ntmps261
  go_wp2_with fail
  go_quiet (first | (go_at_call 295; exact Calls.quiet_of_same (trimR s _ HS.out)) | (go_at_call 294; exact Calls.quiet_of_same (trimL (zr s) _)))
  go_wp2_with fail
  go_ret
  exact ⟨rfl, _, rfl⟩
def ClO (w : World) (b o n : Nat) (v : Nat → Value) : Prop := ∀ i, i < n → w.cell? ⟨b, o + i, none⟩ = some (v i)
theorem ClO.below {w w' : World} {b o n : Nat} {v : Nat → Value} (h : ClO w b o n v) {B : Nat} (hb : Below B w w') (hB : b < B) : ClO w' b o n v := fun i hi => (hb.cell (p := ⟨b, o + i, none⟩) hB).trans (h i hi)
theorem index_none (h : Nat → Bool) (b n cap : Nat) (w : World) (hn : n ≤ 1000) (h2 : ∀ j, j < n → h j = false) (hc : Cl w b n (bI h)) :
  Calls Tryz.prog 293 #[.slice (some ⟨b, 0, none⟩) n cap, .bool true] w fun e w' => e = .returned (.int .i64 (-1)) ∧ w' = w := by
 have HC : Hid _ := hc
 have H2 : Hid _ := h2
 clear hc h2
 go_enter Tryz.func293, Tryz.ntmps293
 go_wp2
 go_loop [8] (fun iv => ∃ i : Nat, i ≤ n ∧ iv = .int .i64 i) (fun iv => n - (intOf iv).toNat)
 case atStart => exact ⟨0, by omega, rfl⟩
 case round =>
  obtain ⟨i, hi, rfl⟩ := hrel
  by_cases hlt : i < n
  ·have c1 : w.cell? ⟨b, i, none⟩ = some (.bool (h i)) := HC.out i hlt
   rw [H2.out i hlt] at c1
   go_wp2
   go_round
   case rel => exact ⟨i + 1, by omega, by go_num⟩
   case measure => simp [intOf]; omega
  ·go_wp2
   go_ret
   exact ⟨rfl, rfl⟩
theorem checkLengths_o (S : Nat → ByteArray) (h : Nat → Bool) (b o n cap b2 cap2 c i0 : Nat) (w : World) (hn : n ≤ 1000) (hi0 : i0 < n) (h1 : h i0 = true) (h2 : ∀ j, j < i0 → h j = false) (hS : ∀ i, i < n → h i = true → (S i).size = c) (hC : ClO w b o n (tI S)) (hc : Cl w b2 n (bI h)) :
  Calls Tryz.prog 257 #[.slice (some ⟨b, o, none⟩) n cap, .slice (some ⟨b2, 0, none⟩) n cap2] w fun e w' => e = .returned .nilIface ∧ ∃ q, w' = w.drewN q := by
 have H : Hid _ := fun W (hW : Cl W b2 n (bI h)) => index_found h b2 n cap2 i0 W hn hi0 h1 h2 hW
 have HC : Hid _ := hC
 have HB : Hid _ := hc
 have HS : Hid _ := hS
 have H1 : Hid _ := h1
 clear hC hc hS h1 h2
 go_enter Tryz.func257, Tryz.ntmps257
 go_wp2_with (go_at_call 293; refine (H.out _ HB.out).mono ?_; rintro e w' ⟨rfl, rfl⟩)
 go_loopw [12] (fun iv wr => ∃ i q : Nat, i ≤ n ∧ iv = .int .i64 i ∧ wr = w'.drewN q) (fun iv _ => n - (intOf iv).toNat)
 case atStart => exact ⟨0, 0, by omega, rfl, rfl⟩
 case round =>
  obtain ⟨i, q, hi, rfl, hq⟩ := hrel
  by_cases hlt : i < n
  ·have c1 : wr.cell? ⟨b2, i, none⟩ = some (.bool (h i)) := by rw [hq]; exact HB.out i hlt
   have c2 : wr.cell? ⟨b, o + i, none⟩ = some (.string (S i)) := by rw [hq]; exact HC.out i hlt
   have c3 : wr.cell? ⟨b, o + i0, none⟩ = some (.string (S i0)) := by rw [hq]; exact HC.out i0 hi0
   have HQ : Hid _ := hq
   clear hq
   have hi0' : (0 : Int) ≤ (i : Int) := by omega
   have hin' : (i : Int) < (n : Int) := by omega
   have hj0' : (0 : Int) ≤ (i0 : Int) := by omega
   have hjn' : (i0 : Int) < (n : Int) := by omega
   by_cases hh : h i = true
   ·rw [hh] at c1
    have hne : (((S i).size : Int) != ((S i0).size : Int)) = false := by rw [bne_eq_false_iff_eq, HS.out i hlt hh, HS.out i0 hi0 H1.out]
    go_wp2
    go_quiet (fail)
    go_wp2
    go_roundw
    case rel => exact ⟨i + 1, _, by omega, by go_num, by rw [HQ.out, World.drewN_drewN]⟩
    case measure => simp [intOf]; omega
   ·have hf : h i = false := by simpa using hh
    rw [hf] at c1
    go_wp2
    go_quiet (fail)
    go_wp2
    go_roundw
    case rel => exact ⟨i + 1, _, by omega, by go_num, by rw [HQ.out, World.drewN_drewN]⟩
    case measure => simp [intOf]; omega
  ·go_wp2
   go_ret
   exact ⟨rfl, q, rfl⟩
theorem checkLengths_n (S : Nat → ByteArray) (h : Nat → Bool) (b o n cap b2 cap2 : Nat) (w : World) (hn : n ≤ 1000) (h2 : ∀ j, j < n → h j = false) (hC : ClO w b o n (tI S)) (hc : Cl w b2 n (bI h)) :
  Calls Tryz.prog 257 #[.slice (some ⟨b, o, none⟩) n cap, .slice (some ⟨b2, 0, none⟩) n cap2] w fun e w' => e = .returned .nilIface ∧ ∃ q, w' = w.drewN q := by
 have H : Hid _ := fun W (hW : Cl W b2 n (bI h)) => index_none h b2 n cap2 W hn h2 hW
 have HC : Hid _ := hC
 have HB : Hid _ := hc
 have H2 : Hid _ := h2
 clear hC hc h2
 go_enter Tryz.func257, Tryz.ntmps257
 go_wp2_with (go_at_call 293; refine (H.out _ HB.out).mono ?_; rintro e w' ⟨rfl, rfl⟩)
 go_loopw [12] (fun iv wr => ∃ i q : Nat, i ≤ n ∧ iv = .int .i64 i ∧ wr = w'.drewN q) (fun iv _ => n - (intOf iv).toNat)
 case atStart => exact ⟨0, 0, by omega, rfl, rfl⟩
 case round =>
  obtain ⟨i, q, hi, rfl, hq⟩ := hrel
  by_cases hlt : i < n
  ·have c1 : wr.cell? ⟨b2, i, none⟩ = some (.bool (h i)) := by rw [hq]; exact HB.out i hlt
   have c2 : wr.cell? ⟨b, o + i, none⟩ = some (.string (S i)) := by rw [hq]; exact HC.out i hlt
   have HQ : Hid _ := hq
   clear hq
   have hi0' : (0 : Int) ≤ (i : Int) := by omega
   have hin' : (i : Int) < (n : Int) := by omega
   rw [H2.out i hlt] at c1
   go_wp2
   go_quiet (fail)
   go_wp2
   go_roundw
   case rel => exact ⟨i + 1, _, by omega, by go_num, by rw [HQ.out, World.drewN_drewN]⟩
   case measure => simp [intOf]; omega
  ·go_wp2
   go_ret
   exact ⟨rfl, q, rfl⟩
theorem cnt_zero (h : Nat → Bool) : ∀ n, cnt h n = 0 → ∀ j, j < n → h j = false
 | 0, _, _, hj => absurd hj (by omega)
 | n + 1, e, j, hj => by
  rw [cnt] at e
  by_cases hn : h n = true
  ·rw [if_pos hn] at e; omega
  ·by_cases ej : j = n
   ·subst ej; simpa using hn
   ·rw [if_neg hn] at e
    exact cnt_zero h n (by omega) j (by omega)
theorem fill_o (S : Nat → ByteArray) (p q : Nat → Nat) (n k m c b o cap b1 cap1 : Nat) (v2 : Value) (w : World) (hn : n ≤ 1000) (hk0 : 0 < k) (hk : k ≤ n) (hm : m ≤ n) (hn2 : n ≤ 256) (hc : c ≤ 140737488351232) (hS : ∀ i, i < k → (S (p i)).size = c) (hp : ∀ i, i < k → p i < n) (hq : ∀ i, i < m → q i < n)
  (hb : b < w.heap.size) (hb1 : b1 < w.heap.size) (hC : ClO w b o n (tI S)) (h1 : Cl w b1 k (pI p)) (h2 : Pts w v2 m q) :
  Calls Tryz.prog 259 #[.slice (some ⟨b, o, none⟩) n cap, .slice (some ⟨b1, 0, none⟩) k cap1, v2] w fun e w' => e = .returned (.slice (some ⟨w.heap.size, 0, none⟩) n n) ∧ Rw w' w.heap.size n 9 (filled S p q k m c) ∧ Below w.heap.size w w' := by
 have HS : Hid _ := hS
 have HP : Hid _ := hp
 have HQ : Hid _ := hq
 have HC : Hid _ := hC
 have H1 : Hid _ := h1
 have H2 : Hid _ := h2
 clear hS hp hq hC h1 h2
 have hmk := run_make_row' (P := Tryz.prog) 42 9 (.string ⟨#[]⟩) 16 Tryz.underlying42 info9 rfl .i64 .i64 n (by omega) (by omega)
 have hmk2 := run_make_row' (P := Tryz.prog) 42 9 (.string ⟨#[]⟩) 16 Tryz.underlying42 info9 rfl .i64 .i64 k (by omega) (by omega)
 go_enter Tryz.func259, Tryz.ntmps259
 go_wp2
 go_loopw [21] (fun iv wr => ∃ i : Nat, i ≤ k ∧ iv = .int .i64 i ∧ Below w.heap.size w wr ∧ Rw wr w.heap.size n 9 (puts (fun _ => .string ⟨#[]⟩) p (fun i => .string (S (p i))) i) ∧ Rw wr (w.heap.size + 1) k 9 (part' i (tI fun i => S (p i)) (.string ⟨#[]⟩))) (fun iv _ => k - (intOf iv).toNat)
 case atStart =>
  refine ⟨0, by omega, rfl, ((Below.refl _ _).alloc (Nat.le_refl _) _).alloc (by simp) _, (Rw.made w n 9 (.string ⟨#[]⟩)).alloc _, ?_⟩
  have := Rw.made (w.alloc (.cells (madeCells #[.string ⟨#[]⟩] n) 9)) k 9 (.string ⟨#[]⟩)
  have e : (w.alloc (.cells (madeCells #[.string ⟨#[]⟩] n) 9)).heap.size = w.heap.size + 1 := by simp
  rw [e] at this
  exact this.to (fun j _ => (part_0 _ _ j).symm)
 case round =>
  obtain ⟨i, hi, rfl, hbl, hA, hK⟩ := hrel
  by_cases hlt : i < k
  ·have hpi := HP.out i hlt
   have c1 : wr.cell? ⟨b1, i, none⟩ = some (.int .i64 ((p i : Nat) : Int)) := Cl.below H1.out hbl hb1 i hlt
   have c2 : wr.cell? ⟨b, o + p i, none⟩ = some (.string (S (p i))) := ClO.below HC.out hbl hb (p i) hpi
   have c3 := hK.cell i hlt
   have c4 := hK.free i
   have hsz : (S (p i)).size ≤ 140737488351232 := by rw [HS.out i hlt]; exact hc
   have hpi2 : ((p i : Nat) : Int) < (n : Int) := by omega
   have hbw : b ≠ w.heap.size + 1 := by omega
   obtain ⟨x, hx⟩ : ∃ x, x = p i := ⟨_, rfl⟩
   rw [← hx] at c1 c2 hsz hpi2
   have HX : Hid _ := hx
   clear hx
   have c5 : (wr.setCell ⟨w.heap.size + 1, i, none⟩ (.string (S x))).cell? ⟨b, o + x, none⟩ = some (.string (S x)) :=
    (World.cell?_of_block (a := ⟨b, o + x, none⟩) (heap_setCell_other wr ⟨w.heap.size + 1, i, none⟩ b (.string (S x)) hbw)).trans c2
   go_wp2_with fail
   refine (sclone_any (S x) _ hsz).mono ?_
   rintro e w3 ⟨rfl, hB3⟩
   have hbz := hbl.size
   have hK3 : Rw w3 (w.heap.size + 1) k 9 (part' (i + 1) (tI fun i => S (p i)) (.string ⟨#[]⟩)) := ((hK.put i (.string (S x))).to (fun j _ => by rw [← part_step, HX.out]; rfl)).below hB3 ((hK.put i (.string (S x))).lt)
   have hA3 : Rw w3 w.heap.size n 9 (puts (fun _ => .string ⟨#[]⟩) p (fun i => .string (S (p i))) i) := (hA.other ⟨w.heap.size + 1, i, none⟩ (.string (S x)) (by simp)).below hB3 ((hA.other ⟨w.heap.size + 1, i, none⟩ (.string (S x)) (by simp)).lt)
   have hb3 : Below w.heap.size w w3 := (hbl.setCell (p := ⟨w.heap.size + 1, i, none⟩) (by simp) (.string (S x))).trans (hB3.mono (by simpa [World.setCell] using hbz))
   have c6 := hA3.cell x (by rw [HX.out]; exact hpi)
   have c7 := hA3.free x
   clear hB3 hbl hA hK c1 c2 c3 c4 c5
   go_wp2
   go_roundw
   case rel => exact ⟨i + 1, by omega, by go_num, hb3.setCell (Nat.le_refl _) _, by rw [HX.out]; exact hA3.put (p i) _, hK3.other _ _ (by simp)⟩
   case measure => simp [intOf]; omega
  ·have e : i = k := by omega
   subst e
   have hK' : Cl wr (w.heap.size + 1) i (tI fun i => S (p i)) := (hK.to (fun j hj => by simp [part', hj])).cl
   have hf : Pts wr (.slice (some ⟨b1, 0, none⟩) i cap1) i p := .inr ⟨b1, cap1, rfl, Nat.lt_of_lt_of_le hb1 hbl.size, Cl.below H1.out hbl hb1⟩
   have ht : Pts wr v2 m q := Pts.below H2.out hbl
   have hkl := hK.lt
   have HK : Hid _ := hK'
   have HF : Hid _ := hf
   have HT : Hid _ := ht
   clear hK' hf ht hK
   go_wp2_with fail
   refine (values_any p q (fun i => S (p i)) i m c (w.heap.size + 1) i _ v2 wr hk0 (by omega) (by omega) hc HS.out (fun j hj => by have := HP.out j hj; omega) (fun j hj => by have := HQ.out j hj; omega) hkl HK.out HF.out HT.out).mono ?_
   rintro e w3 ⟨g, rfl, hg, hV3, hB3⟩
   have hA3 := hA.below hB3 hA.lt
   have hT3 := Pts.below HT.out hB3
   have hb3 := hbl.trans (hB3.mono hbl.size)
   have hgw : w.heap.size < g := by have := hbl.size; omega
   have HT3 : Hid _ := hT3
   clear hT3 HK HF HT hB3 hbl hA
   obtain ⟨b2, hb2, cap2, hv2⟩ : ∃ b2, b2 < w.heap.size ∧ ∃ cap2, (m = 0 ∨ (v2 = .slice (some ⟨b2, 0, none⟩) m cap2 ∧ Cl w3 b2 m (pI q))) := by
    rcases H2.out with ⟨_, h⟩ | ⟨b2, cap2, h, hl, hcl⟩
    ·exact ⟨b, hb, 0, .inl h⟩
    ·exact ⟨b2, hl, cap2, .inr ⟨h, Cl.below hcl hb3 hl⟩⟩
   have HV2 : Hid _ := hv2
   clear hv2
   go_wp2
   go_loopw [47] (fun jv wr => ∃ j : Nat, j ≤ m ∧ jv = .int .i64 j ∧ Below w.heap.size w wr ∧ Same w.heap.size w3 wr ∧ Rw wr w.heap.size n 9 (puts (puts (fun _ => .string ⟨#[]⟩) p (fun i => .string (S (p i))) i) q (tI (vl p q i c fun i => S (p i))) j)) (fun jv _ => m - (intOf jv).toNat)
   case atStart => exact ⟨0, by omega, rfl, hb3, fun _ _ => rfl, hA3⟩
   case round =>
    obtain ⟨j, hj, rfl, hbj, hsm, hA⟩ := hrel
    by_cases hlj : j < m
    ·rcases HV2.out with h0 | ⟨hv, hcl⟩
     ·omega
     ·subst hv
      have hqj := HQ.out j hlj
      have c1 : wr.cell? ⟨g, j, none⟩ = some (.string (vl p q i c (fun i => S (p i)) j)) := (hsm.rw hV3 (by omega)).cell j hlj
      have c2 : wr.cell? ⟨b2, j, none⟩ = some (.int .i64 ((q j : Nat) : Int)) := hsm.cl hcl (by omega) j hlj
      have c3 := hA.cell (q j) hqj
      have c4 := hA.free (q j)
      have hq2 : ((q j : Nat) : Int) < (n : Int) := by omega
      have HA : Hid _ := hA
      have HSM : Hid _ := hsm
      clear hcl hsm hA hV3 hA3
      go_wp2
      go_roundw
      case rel => exact ⟨j + 1, by omega, by go_num, hbj.setCell (Nat.le_refl _) _, Same.put HSM.out (q j) _, Rw.put HA.out (q j) _⟩
      case measure => simp [intOf]; omega
    ·have e : j = m := by omega
     subst e
     go_wp2
     go_ret
     exact ⟨rfl, hA, hbj⟩
theorem restore_o (S : Nat → ByteArray) (h : Nat → Bool) (k m c b o cap b2 cap2 i0 : Nat) (w : World) (hk1 : 1 ≤ k) (hkm : k + m ≤ 255) (hc : c ≤ 140737488351232) (hi0 : i0 < k + m) (h1 : h i0 = true) (h2 : ∀ j, j < i0 → h j = false) (hS : ∀ i, i < k + m → h i = true → (S i).size = c) (hK : (knL h k (k + m)).length = k)
  (hb : b < w.heap.size) (hb2 : b2 < w.heap.size) (hC : ClO w b o (k + m) (tI S)) (hB : Cl w b2 (k + m) (bI h)) :
  Calls Tryz.prog 221 #[.int .i64 k, .int .i64 m, .slice (some ⟨b, o, none⟩) (k + m) cap, .slice (some ⟨b2, 0, none⟩) (k + m) cap2] w fun e w' => ∃ g, e = .returned (.tuple #[.slice (some ⟨g, 0, none⟩) (k + m) (k + m), .nilIface]) ∧ w.heap.size ≤ g ∧
   Rw w' g (k + m) 9 (filled S (gt (knL h k (k + m))) (gt (wnL h k (k + m))) k (wnL h k (k + m)).length c) ∧ Below w.heap.size w w' := by
 have HL : Hid _ := checkLengths_o S h b o (k + m) cap b2 cap2 c i0 w (by omega) hi0 h1 h2 hS hC hB
 have hml := wnL_len h k (k + m)
 obtain ⟨n, hn⟩ : ∃ n, n = k + m := ⟨_, rfl⟩
 have hni : ((k : Int) + (m : Int)) = (n : Int) := by omega
 rw [← hn] at hS hK hC hB HL hi0 hml ⊢
 have hn255 : n ≤ 255 := by omega
 have HNI : Hid _ := hni
 have hkn : k ≤ n := by omega
 have HS : Hid _ := hS
 have HK : Hid _ := hK
 have HC : Hid _ := hC
 have HB : Hid _ := hB
 clear hS hC hB hK h1 h2 hn
 go_enter Tryz.func221, Tryz.ntmps221
 go_wp2_with fail
 refine (checkParams_ok k m _ hk1 hkm).mono ?_
 rintro e w' ⟨rfl, rfl⟩
 go_wp2_with fail
 refine (Calls.mono HL.out ?_)
 rintro e w1 ⟨rfl, q, hq⟩
 have HQ : Hid _ := hq
 have hC1 : ClO w1 b o n (tI S) := by rw [hq]; exact HC.out
 have hB1 : Cl w1 b2 n (bI h) := by rw [hq]; exact HB.out
 have hBel : Below w'.heap.size w' w1 := by rw [hq]; exact below_drewN (Below.refl _ _) q
 have hs1 : w1.heap.size = w'.heap.size := by rw [hq]; rfl
 have HC1 : Hid _ := hC1
 have HB1 : Hid _ := hB1
 have HS1 : Hid _ := hs1
 clear hC1 hB1 hq hs1 hni
 go_wp2_with fail
 refine (split_any h b2 n cap2 k w1 (by omega) (by omega) (by rw [HS1.out]; exact hb2) HB1.out).mono ?_
 rintro e w2 ⟨v1, v2, rfl, ho1, ho2, hB2⟩
 have hp2 := own_pts ho2
 obtain ⟨g1, cap1, hv1, hg1, hc1⟩ := own_cells ho1 (by rw [HK.out]; omega)
 rw [HK.out] at hv1 hc1
 subst hv1
 have HP2 : Hid _ := hp2
 have HC1' : Hid _ := hc1
 clear hp2 hc1 ho1 ho2
 have hbb : b < w2.heap.size := by have := HS1.out; have := hB2.size; omega
 have hC2 : ClO w2 b o n (tI S) := ClO.below HC1.out hB2 (by rw [HS1.out]; exact hb)
 have HC2 : Hid _ := hC2
 clear hC2
 go_wp2_with fail
 refine (fill_o S (gt (knL h k n)) (gt (wnL h k n)) n k (wnL h k n).length c b o cap g1 cap1 v2 w2 (by omega) (by omega) hkn hml (by omega) hc (fun i hi => ?_) (fun i hi => ?_) (fun i hi => ?_) hbb hg1 HC2.out HC1'.out HP2.out).mono ?_
 ·have := knL_mem h k n _ (gt_mem (knL h k n) i (by rw [HK.out]; exact hi)); exact HS.out _ this.1 this.2
 ·exact (knL_mem h k n _ (gt_mem (knL h k n) i (by rw [HK.out]; exact hi))).1
 ·exact wnL_mem h k n _ (gt_mem (wnL h k n) i hi)
 rintro e w3 ⟨rfl, hR3, hB3⟩
 go_wp2
 go_ret2
 exact ⟨w2.heap.size, rfl, Nat.le_trans hBel.size hB2.size, hR3, (hBel.trans (hB2.mono hBel.size)).trans (hB3.mono (Nat.le_trans hBel.size hB2.size))⟩
theorem restore_few (S : Nat → ByteArray) (h : Nat → Bool) (k m c b o cap b2 cap2 : Nat) (w : World) (hk1 : 1 ≤ k) (hkm : k + m ≤ 255) (hS : ∀ i, i < k + m → h i = true → (S i).size = c) (hK : (knL h k (k + m)).length < k)
  (hb2 : b2 < w.heap.size) (hC : ClO w b o (k + m) (tI S)) (hB : Cl w b2 (k + m) (bI h)) :
  Calls Tryz.prog 221 #[.int .i64 k, .int .i64 m, .slice (some ⟨b, o, none⟩) (k + m) cap, .slice (some ⟨b2, 0, none⟩) (k + m) cap2] w fun e w' => ∃ z, e = .returned (.tuple #[.slice none 0 0, .iface 305 (.pointer (some ⟨z, 0, none⟩))]) ∧ Below w.heap.size w w' := by
 have HL : Hid (Calls Tryz.prog 257 #[.slice (some ⟨b, o, none⟩) (k + m) cap, .slice (some ⟨b2, 0, none⟩) (k + m) cap2] w fun e w' => e = .returned .nilIface ∧ ∃ q, w' = w.drewN q) := by
  by_cases hp : 0 < cnt h (k + m)
  ·obtain ⟨i0, hi0, h1, h2⟩ := cnt_first h (k + m) hp
   exact checkLengths_o S h b o (k + m) cap b2 cap2 c i0 w (by omega) hi0 h1 h2 hS hC hB
  ·exact checkLengths_n S h b o (k + m) cap b2 cap2 w (by omega) (cnt_zero h (k + m) (by omega)) hC hB
 obtain ⟨n, hn⟩ : ∃ n, n = k + m := ⟨_, rfl⟩
 have hni : ((k : Int) + (m : Int)) = (n : Int) := by omega
 rw [← hn] at hK hB HL ⊢
 have hn255 : n ≤ 255 := by omega
 have HNI : Hid _ := hni
 have HK : Hid _ := hK
 have HB : Hid _ := hB
 clear hS hC hB hK hn
 go_enter Tryz.func221, Tryz.ntmps221
 go_wp2_with fail
 refine (checkParams_ok k m _ hk1 hkm).mono ?_
 rintro e w' ⟨rfl, rfl⟩
 go_wp2_with fail
 refine (Calls.mono HL.out ?_)
 rintro e w1 ⟨rfl, q, hq⟩
 have HQ : Hid _ := hq
 have hB1 : Cl w1 b2 n (bI h) := by rw [hq]; exact HB.out
 have hBel : Below w'.heap.size w' w1 := by rw [hq]; exact below_drewN (Below.refl _ _) q
 have hs1 : w1.heap.size = w'.heap.size := by rw [hq]; rfl
 have HB1 : Hid _ := hB1
 have HS1 : Hid _ := hs1
 clear hB1 hq hs1 hni
 go_wp2_with fail
 refine (split_any h b2 n cap2 k w1 (by omega) (by omega) (by rw [HS1.out]; exact hb2) HB1.out).mono ?_
 rintro e w2 ⟨v1, v2, rfl, ho1, ho2, hB2⟩
 obtain ⟨a1, cap1, hv1⟩ := own_shape ho1
 have hkl : (knL h k n).length < k := HK.out
 obtain ⟨len, hlen⟩ : ∃ x, (knL h k n).length = x := ⟨_, rfl⟩
 rw [hlen] at hv1 hkl
 subst hv1
 clear ho1 ho2 hlen
 go_wp2_with fail
 refine (at_err 14 len w2).mono ?_
 rintro e w3 ⟨z, rfl, hz, hB3⟩
 clear hz
 go_wp2
 go_ret2
 exact ⟨z, rfl, (hBel.trans (hB2.mono hBel.size)).trans (hB3.mono (Nat.le_trans hBel.size hB2.size))⟩
set_option maxHeartbeats 4000000
theorem hleaf (g n : Nat) (lv : ByteArray) (w : World) (g7 : w.cell? ⟨g, 7, none⟩ = some (.string lv)) (hn : (n + 1) * 32 ≤ lv.size) (hl : lv.size ≤ 1000000) :
  Calls Tryz.prog 256 #[.pointer (some ⟨g, 0, none⟩), .int .i64 n] w fun e w' => e = .returned (.string (pc lv 32 n)) ∧ w' = w := by
 obtain ⟨lo, hlo⟩ : ∃ lo, n * 32 = lo := ⟨_, rfl⟩
 obtain ⟨up, hup⟩ : ∃ up, (n + 1) * 32 = up := ⟨_, rfl⟩
 have e1 : (n : Int) * 32 = ((lo : Nat) : Int) := by omega
 have e2 : ((n : Int) + 1) * 32 = ((up : Nat) : Int) := by omega
 have hll : lo ≤ up := by omega
 have hle : up ≤ lv.size := by omega
 have hn2 : n ≤ 1000000 := by omega
 have HPC : Hid (pc lv 32 n = lv.extract lo up) := by show pc lv 32 n = lv.extract lo up; unfold pc; rw [hlo, hup]
 clear hlo hup hn
 have hsl : ∀ W, (Instr.slice 9 (.string lv) (some (.int .i64 ((lo : Nat) : Int))) (some (.int .i64 ((up : Nat) : Int))) none).run Tryz.prog W = .ok (.string (lv.extract lo up)) W := fun W => by
  rw [run_slice_string W 9 lv .i64 .i64 _ _ Tryz.underlying9 (by omega) (by omega) (by omega), Int.toNat_natCast, Int.toNat_natCast]
 rw [HPC.out]
 go_enter Tryz.func256, Tryz.ntmps256
 go_wp2
 go_ret
 exact ⟨rfl, rfl⟩
def goodB (kt : Nat → Int) (C : Nat) (lv : ByteArray) (n : Nat) (b : ByteArray) : Bool := decide (b.size = C ∧ leafT (ofT kt) b = pc lv 32 n)
theorem isGood_any (kt : Nat → Int) (k g n C : Nat) (lv b : ByteArray) (w : World) (a0 : w.cell? ⟨k, 0, none⟩ = some (.pointer (some ⟨g, 0, none⟩))) (g4 : w.cell? ⟨g, 4, none⟩ = some (.int .i64 C)) (g7 : w.cell? ⟨g, 7, none⟩ = some (.string lv)) (hG : Gd kt w)
  (hn : (n + 1) * 32 ≤ lv.size) (hl : lv.size ≤ 1000000) (hC : C ≤ 64) :
  Calls Tryz.prog 220 #[.pointer (some ⟨k, 0, none⟩), .int .i64 n, .string b] w fun e w' => e = .returned (.bool (goodB kt C lv n b)) ∧ Below w.heap.size w w' := by
 have hkl : k < w.heap.size := block_lt_of_cell a0
 have hgl : g < w.heap.size := block_lt_of_cell g4
 by_cases hs : b.size = C
 ·have hs' : ((b.size : Int) == (C : Int)) = true := by rw [beq_iff_eq]; omega
  have H1 : Hid (∀ X : World, Below w.heap.size w X → Calls Tryz.prog 223 #[.string b] X fun e w' => e = .returned (.string (leafT (ofT kt) b)) ∧ Below X.heap.size X w') := fun X hX => leaf_any kt b X (by omega) (hG.below hX)
  have H2 : Hid (∀ X : World, Below w.heap.size w X → Calls Tryz.prog 256 #[.pointer (some ⟨g, 0, none⟩), .int .i64 n] X fun e w' => e = .returned (.string (pc lv 32 n)) ∧ w' = X) := fun X hX => hleaf g n lv X ((hX.cell (p := ⟨g, 7, none⟩) hgl).trans g7) hn hl
  obtain ⟨lf, hlf⟩ : ∃ x, leafT (ofT kt) b = x := ⟨_, rfl⟩
  obtain ⟨pv, hpv⟩ : ∃ x, pc lv 32 n = x := ⟨_, rfl⟩
  have HR : Hid (goodB kt C lv n b = (lf.toList == pv.toList)) := by
   show goodB kt C lv n b = _
   unfold goodB
   rw [hlf, hpv]
   by_cases e : lf = pv
   ·rw [texts_eq e, decide_eq_true ⟨hs, e⟩]
   ·rw [texts_ne e, decide_eq_false (fun h => e h.2)]
  rw [hlf] at H1
  rw [hpv] at H2
  clear hlf hpv hG hn hs g7
  go_enter Tryz.func220, Tryz.ntmps220
  go_wp2_with fail
  go_region_held3 (fun w2 => w2.cell? ⟨k, 0, none⟩ = some (.pointer (some ⟨g, 0, none⟩)) ∧ w2.cell? ⟨g, 4, none⟩ = some (.int .i64 C)) (go_keep) (first | (go_at_call 223; refine Calls.mono (H1.out _ (by first | exact Below.refl _ _ | exact (Below.refl _ _).drew)) ?_; rintro e w1 ⟨rfl, hb1⟩; have hB1 : Below w.heap.size w w1 := (by first | exact hb1 | exact ((Below.refl _ _).drew).trans hb1); have q0 := (hB1.cell (p := ⟨k, 0, none⟩) hkl).trans a0; have q4 := (hB1.cell (p := ⟨g, 4, none⟩) hgl).trans g4) | (go_at_call 256; refine Calls.mono (H2.out _ (by first | exact hB1 | exact Below.refl _ _ | exact (Below.refl _ _).drew)) ?_; rintro e w2 ⟨rfl, rfl⟩))
  go_wp2_with fail
  go_ret
  exact ⟨by rw [HR.out]; rfl, hB1⟩
 ·have hs' : ((b.size : Int) == (C : Int)) = false := by rw [beq_eq_false_iff_ne]; omega
  have HR : Hid (goodB kt C lv n b = false) := decide_eq_false (fun h => hs h.1)
  rw [HR.out]
  clear hs hG g7 hn
  go_enter Tryz.func220, Tryz.ntmps220
  go_wp2_with fail
  go_quiet (fail)
  go_wp2_with fail
  go_ret
  exact ⟨rfl, below_drewN (Below.refl _ _) _⟩
theorem jL_eq (F : Nat → ByteArray) (c : Nat) : ∀ n, (∀ i, i < n → (F i).size = c) → (jL F n).length = n * c
 | 0, _ => by simp [jL]
 | n + 1, h => by
  have ih := jL_eq F c n (fun i hi => h i (by omega))
  have e : jL F (n + 1) = jL F n ++ (F n).data.toList := by simp [jL, List.range_succ]
  rw [e, List.length_append, ih, dl, h n (by omega), Nat.succ_mul]
theorem jT_eq (F : Nat → ByteArray) (c n : Nat) (h : ∀ i, i < n → (F i).size = c) : (jT F n).size = n * c := by
 have := jL_eq F c n h
 show (jL F n).toArray.size = n * c
 simpa using this
def okI (kt : Nat → Int) (C : Nat) (lv : ByteArray) (o : Nat) (S : Nat → ByteArray) (h : Nat → Bool) (A : Nat → ByteArray) (i : Nat) : Bool := goodB kt C lv (o + i) (A i) && !(h i && !decide (A i = S i))
def tlT (A : Nat → ByteArray) (K C s len : Nat) : ByteArray := (jT A K).extract (min (len - s * (K * C)) (K * C)) (K * C)
def frg (kt : Nat → Int) (K M C : Nat) (lv : ByteArray) (s len : Nat) (S : Nat → ByteArray) (h : Nat → Bool) (A : Nat → ByteArray) : Bool :=
 if ∀ i, i < K + M → okI kt C lv (s * (K + M)) S h A i = true then decide ((tz (tlT A K C s len)).size ≠ 0) else true
theorem goodB_size {kt : Nat → Int} {C : Nat} {lv : ByteArray} {n : Nat} {b : ByteArray} (h : goodB kt C lv n b = true) : b.size = C := (of_decide_eq_true h).1
theorem okI_size {kt : Nat → Int} {C : Nat} {lv : ByteArray} {o : Nat} {S : Nat → ByteArray} {h : Nat → Bool} {A : Nat → ByteArray} {i : Nat} (e : okI kt C lv o S h A i = true) : (A i).size = C := goodB_size (by unfold okI at e; rw [Bool.and_eq_true] at e; exact e.1)
theorem forged_any (kt : Nat → Int) (k g B K M C V num first s q b2 md n o len capq cap2 : Nat) (aE : Option Addr) (kE : Nat) (es : List (ByteArray × Nat)) (root lst lv : ByteArray) (vB : Value) (S A : Nat → ByteArray) (h : Nat → Bool) (w : World)
  (a0 : w.cell? ⟨k, 0, none⟩ = some (.pointer (some ⟨g, 0, none⟩))) (hg : w.heap[g]? = some (.cells (volC root lst K M C V (.slice aE es.length kE) lv num first vB) 319 (0, 0))) (ho : w.ownsRow B 70 2 (.slice aE es.length kE) es.length (enV es))
  (hl : es.length ≤ 16) (hsum : lenE es ≤ 4096) (hlen : lenE es = len) (hG : Gd kt w) (hK : 1 ≤ K) (hKM : K + M ≤ 255) (hn : n = K + M) (hC1 : 1 ≤ C) (hC : C ≤ 64) (hlv : (o + n) * 32 ≤ lv.size) (hlv2 : lv.size ≤ 1000000) (hso : s * (K + M) = o) (hs : s ≤ 10000) (hs2 : s * (K * C) < len)
  (hq : q < w.heap.size) (hS : ClO w q o n (tI S)) (hb2 : b2 < w.heap.size) (hh : Cl w b2 n (bI h)) (hA : Rw w md n 9 (tX A)) :
  Calls Tryz.prog 222 #[.pointer (some ⟨k, 0, none⟩), .int .i64 s, .slice (some ⟨q, o, none⟩) n capq, .slice (some ⟨b2, 0, none⟩) n cap2, .slice (some ⟨md, 0, none⟩) n n] w fun e w' => e = .returned (.bool (frg kt K M C lv s len S h A)) ∧ Below w.heap.size w w' := by
 have hkl : k < w.heap.size := block_lt_of_cell a0
 have hgl : g < w.heap.size := (Array.getElem?_eq_some_iff.1 hg).1
 have hml : md < w.heap.size := (Array.getElem?_eq_some_iff.1 hA).1
 have hoo : (s : Int) * (n : Int) = ((o : Nat) : Int) := by rw [hn, ← hso]; simp
 have HGD : Hid (∀ (X : World) (i : Nat), Below w.heap.size w X → i < n → Calls Tryz.prog 220 #[.pointer (some ⟨k, 0, none⟩), .int .i64 ((o + i : Nat) : Int), .string (A i)] X fun e w' => e = .returned (.bool (goodB kt C lv (o + i) (A i))) ∧ Below X.heap.size X w') := fun X i hX hi => by
  have e1 := (hX.block g hgl).trans hg
  exact isGood_any kt k g (o + i) C lv (A i) X ((hX.cell (p := ⟨k, 0, none⟩) hkl).trans a0) (cell_of_row _ _ _ _ 319 _ e1) (cell_of_row _ _ _ _ 319 _ e1) (hG.below hX) (Nat.le_trans (Nat.mul_le_mul_right 32 (by omega)) hlv) hlv2 hC
 have HCL : Hid (∀ (X : World) (i : Nat), Below w.heap.size w X → i < n → X.cell? ⟨md, i, none⟩ = some (.string (A i)) ∧ X.cell? ⟨b2, i, none⟩ = some (.bool (h i)) ∧ X.cell? ⟨q, o + i, none⟩ = some (.string (S i))) := fun X i hX hi =>
  ⟨(hX.cell (p := ⟨md, i, none⟩) hml).trans (hA.cell i hi), (hX.cell (p := ⟨b2, i, none⟩) hb2).trans (hh i hi), (hX.cell (p := ⟨q, o + i, none⟩) hq).trans (hS i hi)⟩
 have HHD : Hid (∀ X : World, Below w.heap.size w X → X.cell? ⟨k, 0, none⟩ = some (.pointer (some ⟨g, 0, none⟩)) ∧ X.cell? ⟨g, 2, none⟩ = some (.int .i64 K)) := fun X hX =>
  ⟨(hX.cell (p := ⟨k, 0, none⟩) hkl).trans a0, cell_of_row _ _ _ _ 319 _ ((hX.block g hgl).trans hg)⟩
 have HLN : Hid (∀ X : World, Below w.heap.size w X → Calls Tryz.prog 260 #[.pointer (some ⟨g, 0, none⟩)] X fun e w' => e = .returned (.int .i64 len) ∧ Below X.heap.size X w') := fun X hX => by
  rw [← hlen]
  exact hlength g B es.length kE aE es X (cell_of_row _ _ _ _ 319 _ ((hX.block g hgl).trans hg)) rfl (own_below ho hX) (fun i => Nat.le_trans (lenE_take_le es i) (by omega)) (by omega)
 have HJN : Hid (∀ X : World, Below w.heap.size w X → (∀ i, i < n → (A i).size = C) → Calls Tryz.prog 184 #[.slice (some ⟨md, 0, none⟩) K n, .string ⟨#[]⟩] X fun e w' => e = .returned (.string (jT A K)) ∧ Below X.heap.size X w') := fun X hX hz =>
  sjoin_any A md 0 K n C X (Nat.lt_of_lt_of_le hml hX.size) (by omega) (by omega) (by omega) (fun i hi => Nat.le_of_eq (hz i (by omega))) (fun i hi => by rw [Nat.zero_add]; exact (HCL.out X i hX (by omega)).1)
 have hle : len ≤ 4096 := by omega
 have hKC1 : 1 ≤ K * C := Nat.mul_pos hK hC1
 have hKC2 : K * C ≤ 100000 := Nat.le_trans (Nat.mul_le_mul (show K ≤ 255 by omega) hC) (by omega)
 have hKn : K ≤ n := by omega
 have hn255 : n ≤ 255 := by omega
 have hso2 : o ≤ 2550000 := by rw [← hso]; exact Nat.le_trans (Nat.mul_le_mul hs hKM) (by omega)
 have HFR : Hid (frg kt K M C lv s len S h A = if ∀ i, i < n → okI kt C lv o S h A i = true then decide ((tz (tlT A K C s len)).size ≠ 0) else true) := by show frg kt K M C lv s len S h A = _; unfold frg; rw [hn, hso]
 obtain ⟨res, hres⟩ : ∃ x, frg kt K M C lv s len S h A = x := ⟨_, rfl⟩
 rw [hres] at HFR ⊢
 have HJS : Hid (∀ i, i < n → (A i).size = C) → (jT A K).size = K * C := fun hz => jT_eq A C K (fun i hi => hz.out i (by omega))
 have HHJ : Hid _ := HJS
 clear a0 hg ho hl hsum hlen hG hn hlv hlv2 hso hS hh hA hres HJS
 go_enter Tryz.func222, Tryz.ntmps222
 go_wp2_with fail
 go_loopw [22] (fun iv wr => ∃ i : Nat, i ≤ n ∧ iv = .int .i64 i ∧ Below w.heap.size w wr ∧ ∀ j, j < i → okI kt C lv o S h A j = true) (fun iv _ => n - (intOf iv).toNat)
 case atStart => exact ⟨0, by omega, rfl, Below.refl _ _, fun j hj => absurd hj (by omega)⟩
 case round =>
  obtain ⟨i, hi, rfl, hB, hok⟩ := hrel
  have HB : Hid _ := hB
  have HOK : Hid _ := hok
  by_cases hlt : i < n
  ·obtain ⟨c1, _, _⟩ := HCL.out wr i hB hlt
   have hin : (i : Int) < (n : Int) := by omega
   have HGI : Hid _ := HGD.out wr i hB hlt
   obtain ⟨x, hx⟩ : ∃ x, o + i = x := ⟨_, rfl⟩
   rw [hx] at HGI
   have hoi : (o : Int) + (i : Int) = (x : Int) := by omega
   have HX : Hid _ := hx
   clear hB hok hx
   go_wp2_with fail
   refine Calls.mono HGI.out ?_
   rintro e w1 ⟨rfl, hb1⟩
   have HB1 : Hid (Below w.heap.size w w1) := HB.out.trans (hb1.mono HB.out.size)
   obtain ⟨d1, d2, d3⟩ := HCL.out w1 i HB1.out hlt
   clear hb1 c1
   have HOI : Hid (okI kt C lv o S h A i = (goodB kt C lv x (A i) && !(h i && !decide (A i = S i)))) := by show okI kt C lv o S h A i = _; unfold okI; rw [HX.out]
   cases hgd : goodB kt C lv x (A i) with
   | false =>
    rw [hgd] at HOI
    have HRS : Hid (res = true) := by
     show res = true
     rw [HFR.out, if_neg (fun ha => by have := ha i hlt; rw [HOI.out] at this; cases this)]
    clear hgd
    go_wp2_with fail
    go_ret
    exact ⟨by rw [HRS.out]; rfl, HB1.out⟩
   | true =>
    rw [hgd] at HOI
    cases hhi : h i with
    | false =>
     rw [hhi] at HOI d2
     clear hgd hhi
     go_wp2_with fail
     go_roundw
     case rel => exact ⟨i + 1, by omega, by go_num, HB1.out, fun j hj => by
      by_cases e : j = i
      ·subst e; exact HOI.out
      ·exact HOK.out j (by omega)⟩
     case measure => simp [intOf]; omega
    | true =>
     rw [hhi] at HOI d2
     by_cases hAS : A i = S i
     ·have hx : (!((A i).toList == (S i).toList)) = false := by rw [texts_eq hAS]; rfl
      have HOI2 : Hid (okI kt C lv o S h A i = true) := by show okI kt C lv o S h A i = true; rw [HOI.out, decide_eq_true hAS]; rfl
      clear hgd hhi HOI hAS
      go_wp2_with fail
      go_roundw
      case rel => exact ⟨i + 1, by omega, by go_num, HB1.out, fun j hj => by
       by_cases e : j = i
       ·subst e; exact HOI2.out
       ·exact HOK.out j (by omega)⟩
      case measure => simp [intOf]; omega
     ·have hx : (!((A i).toList == (S i).toList)) = true := by rw [texts_ne hAS]; rfl
      have HRS : Hid (res = true) := by
       show res = true
       rw [HFR.out, if_neg (fun ha => by have := ha i hlt; rw [HOI.out, decide_eq_false hAS] at this; cases this)]
      clear hgd hhi HOI hAS
      go_wp2_with fail
      go_ret
      exact ⟨by rw [HRS.out]; rfl, HB1.out⟩
  ·have ei : i = n := by omega
   subst ei
   have hz : ∀ j, j < i → (A j).size = C := fun j hj => okI_size (hok j hj)
   have hjs := HHJ.out hz
   obtain ⟨z, hzz⟩ : ∃ z, K * C = z := ⟨_, rfl⟩
   obtain ⟨m, hm⟩ : ∃ m, s * z = m := ⟨_, rfl⟩
   have HRS : Hid (res = decide ((tz (tlT A K C s len)).size ≠ 0)) := by show res = _; rw [HFR.out, if_pos hok]
   obtain ⟨e1, he1⟩ : ∃ e1, min (len - m) z = e1 := ⟨_, rfl⟩
   have HTL : Hid (tlT A K C s len = (jT A K).extract e1 z) := by show tlT A K C s len = _; unfold tlT; rw [hzz, hm, he1]
   rw [hzz] at hjs hs2 hKC1 hKC2
   rw [hm] at hs2
   have hmm : (s : Int) * (z : Int) = (m : Int) := by rw [← hm]; simp
   have hsub : (len : Int) - (m : Int) = ((len - m : Nat) : Int) := by omega
   obtain ⟨x2, x3⟩ := HHD.out wr hB
   have HZ : Hid _ := hz
   clear hok hB hz hzz hm
   go_wp2_with fail
   refine (HJN.out wr HB.out HZ.out).mono ?_
   rintro e w1 ⟨rfl, hb1⟩
   have HB1 : Hid (Below w.heap.size w w1) := HB.out.trans (hb1.mono HB.out.size)
   obtain ⟨y2, y3⟩ := HHD.out w1 HB1.out
   clear hb1 x2 x3
   obtain ⟨D, hD⟩ : ∃ D, jT A K = D := ⟨_, rfl⟩
   rw [hD] at hjs HTL ⊢
   clear hD
   go_wp2_with fail
   refine (HLN.out w1 HB1.out).mono ?_
   rintro e w2 ⟨rfl, hb2⟩
   have HB2 : Hid (Below w.heap.size w w2) := HB1.out.trans (hb2.mono HB1.out.size)
   clear hb2 y2 y3
   have hmi : (min ((len - m : Nat) : Int) (z : Int)).toNat = e1 := by omega
   have HSZ : Hid ((D.extract e1 z).size ≤ 1000000000) := by show (D.extract e1 z).size ≤ 1000000000; rw [ByteArray.size_extract]; omega
   have HMI : Hid _ := hmi
   clear hmi he1
   go_wp2_with fail
   rw [HMI.out]
   rw [HTL.out] at HRS
   refine Calls.mono (trim0 (D.extract e1 z) w2 HSZ.out) ?_
   rintro e w3 ⟨rfl, qd, hw3⟩
   have HB3 : Hid (Below w.heap.size w w3) := by show Below w.heap.size w w3; rw [hw3]; exact below_drewN HB2.out _
   clear hw3
   obtain ⟨L, hL⟩ : ∃ L, tz (D.extract e1 z) = L := ⟨_, rfl⟩
   rw [hL] at HRS ⊢
   clear hL
   by_cases hL0 : L.size = 0
   ·have e0 : L = ⟨#[]⟩ := ByteArray.ext (Array.eq_empty_of_size_eq_zero hL0)
    have HR2 : Hid (res = false) := by show res = false; rw [HRS.out]; exact decide_eq_false (fun h => h hL0)
    subst e0
    clear hL0
    go_wp2_with fail
    go_ret
    exact ⟨by rw [HR2.out]; rfl, HB3.out⟩
   ·have hq1 : ¬ L.toList = [] := fun e => hL0 (by rw [ByteArray.toList_eq] at e; have := congrArg List.length e; simpa using this)
    have hq2 : L.toList.isEmpty = false := by simpa using hq1
    have HR2 : Hid (res = true) := by show res = true; rw [HRS.out]; exact decide_eq_true hL0
    clear hL0
    go_wp2_with fail
    go_ret
    exact ⟨by rw [HR2.out]; rfl, HB3.out⟩
end Go.Proofs.YtadinjaocnlglaaGreatDoor
