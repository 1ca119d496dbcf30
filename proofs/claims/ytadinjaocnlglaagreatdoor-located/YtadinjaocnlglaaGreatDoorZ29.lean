/-
  strings.Trim, where it cuts off bytes 0: is anything left?
  stripe.Restore of blocks that lie amid a greater row; and where there are too few.
-/
import Derived.Test.YtadinjaocnlglaaGreatDoorZ22
import Derived.Test.YtadinjaocnlglaaGreatDoorZ23
namespace Go.Proofs.YtadinjaocnlglaaGreatDoor
open Go.RowKit
set_option maxRecDepth 100000
set_option maxHeartbeats 1000000
/-- all bytes are 0 -/
def AllZ (t : ByteArray) : Prop := ∀ (j : Nat) (h : j < t.size), t[j].toNat = 0
theorem AllZ.nil {t : ByteArray} (h : t.size = 0) : AllZ t := fun j hj => by omega
theorem allZ_tail {t : ByteArray} (h : 0 < t.size) (h0 : t[0].toNat = 0) : AllZ (t.extract 1 t.size) ↔ AllZ t := by
  constructor
  · intro hz j hj
    cases j with
    | zero => exact h0
    | succ j =>
      have := hz j (by rw [ByteArray.size_extract]; omega)
      rw [ByteArray.getElem_extract] at this
      simpa [Nat.add_comm] using this
  · intro hz j hj
    rw [ByteArray.getElem_extract]
    exact hz _ _
theorem allZ_init {t : ByteArray} {m : Nat} (h : m < t.size) (hm : t.size = m + 1) (h0 : t[m].toNat = 0) : AllZ (t.extract 0 m) ↔ AllZ t := by
  constructor
  · intro hz j hj
    by_cases e : j = m
    · subst e; exact h0
    · have := hz j (by rw [ByteArray.size_extract]; omega)
      rw [ByteArray.getElem_extract] at this
      simpa using this
  · intro hz j hj
    rw [ByteArray.getElem_extract]
    exact hz _ _
def zlF : Nat → ByteArray → ByteArray
  | 0, t => t
  | f + 1, t => if h : 0 < t.size then if t[0].toNat = 0 then zlF f (t.extract 1 t.size) else t else t
def zl (t : ByteArray) : ByteArray := zlF t.size t
def zrF : Nat → ByteArray → ByteArray
  | 0, t => t
  | f + 1, t => if h : f < t.size then if t[f].toNat = 0 then zrF f (t.extract 0 f) else t else t
def zr (t : ByteArray) : ByteArray := zrF t.size t
theorem zl_step {t : ByteArray} (h : 0 < t.size) (h0 : t[0].toNat = 0) : zl (t.extract 1 t.size) = zl t := by
  unfold zl
  have e : (t.extract 1 t.size).size = t.size - 1 := by rw [ByteArray.size_extract]; omega
  rw [e]
  obtain ⟨m, hm⟩ : ∃ m, t.size = m + 1 := ⟨t.size - 1, by omega⟩
  conv => rhs; rw [hm]
  rw [zlF, dif_pos h, if_pos h0, hm]
  rfl
theorem zl_stop {t : ByteArray} (h : 0 < t.size) (h0 : ¬ t[0].toNat = 0) : zl t = t := by
  unfold zl
  obtain ⟨m, hm⟩ : ∃ m, t.size = m + 1 := ⟨t.size - 1, by omega⟩
  rw [hm, zlF, dif_pos h, if_neg h0]
theorem zl_nil {t : ByteArray} (h : t.size = 0) : zl t = t := by
  unfold zl
  rw [h]; rfl
theorem zr_step {t : ByteArray} {m : Nat} (h : m < t.size) (hm : t.size = m + 1) (h0 : t[m].toNat = 0) : zr (t.extract 0 m) = zr t := by
  unfold zr
  have e : (t.extract 0 m).size = m := by rw [ByteArray.size_extract]; omega
  rw [e]
  conv => rhs; rw [hm]
  rw [zrF, dif_pos h, if_pos h0]
theorem zr_stop {t : ByteArray} {m : Nat} (h : m < t.size) (hm : t.size = m + 1) (h0 : ¬ t[m].toNat = 0) : zr t = t := by
  unfold zr
  rw [hm, zrF, dif_pos h, if_neg h0]
theorem zr_nil {t : ByteArray} (h : t.size = 0) : zr t = t := by
  unfold zr
  rw [h]; rfl
theorem zl_all : ∀ (n : Nat) (t : ByteArray), t.size = n → ((zl t).size = 0 ↔ AllZ t)
  | 0, t, h => ⟨fun _ => AllZ.nil h, fun _ => by rw [zl_nil h]; exact h⟩
  | n + 1, t, h => by
    have hp : 0 < t.size := by omega
    by_cases h0 : t[0].toNat = 0
    · rw [← zl_step hp h0, zl_all n _ (by rw [ByteArray.size_extract]; omega), allZ_tail hp h0]
    · rw [zl_stop hp h0]
      exact ⟨fun e => absurd e (by omega), fun hz => absurd (hz 0 hp) h0⟩
theorem zr_all : ∀ (n : Nat) (t : ByteArray), t.size = n → (AllZ (zr t) ↔ AllZ t) ∧ (zr t).size ≤ n
  | 0, t, h => by rw [zr_nil h]; exact ⟨Iff.rfl, by omega⟩
  | n + 1, t, h => by
    have hp : n < t.size := by omega
    by_cases h0 : t[n].toNat = 0
    · have ih := zr_all n (t.extract 0 n) (by rw [ByteArray.size_extract]; omega)
      rw [zr_step hp h h0] at ih
      exact ⟨ih.1.trans (allZ_init hp h h0), by omega⟩
    · rw [zr_stop hp h h0]
      exact ⟨Iff.rfl, by omega⟩
def strL : Value → Nat
  | .string t => t.size
  | _ => 0
theorem txt_ne {a b : ByteArray} (h : a ≠ b) : (a.toList == b.toList) = false := by
  rw [beq_eq_false_iff_ne]
  intro e
  exact h (ByteArray.ext (by rw [ByteArray.toList_eq, ByteArray.toList_eq] at e; exact Array.toList_inj.1 e))
theorem trimL (s : ByteArray) (w : World) : Calls Tryz.prog 294 #[.string s, .int .u8 0] w fun e w' => e = .returned (.string (zl s)) ∧ w' = w := by
  go_enter Tryz.func294, Tryz.ntmps294
  go_wp2
  go_loop [0] (fun v => ∃ t : ByteArray, v = .string t ∧ t.size ≤ s.size ∧ zl t = zl s) (fun v => strL v)
  case atStart => exact ⟨s, rfl, Nat.le_refl _, rfl⟩
  case round =>
    obtain ⟨t, rfl, ht, hz⟩ := hrel
    have HZ : Hid _ := hz
    clear hz
    by_cases h0 : 0 < t.size
    · obtain ⟨b, hb⟩ : ∃ b : Nat, t[0].toNat = b := ⟨_, rfl⟩
      by_cases hb0 : b = 0
      · have hbb : ((b : Int) == 0) = true := by simp [hb0]
        have HT : Hid _ := zl_step h0 (hb.trans hb0)
        clear hb0
        go_wp2
        go_round
        case rel => exact ⟨_, rfl, by rw [ByteArray.size_extract]; omega, HT.out.trans HZ.out⟩
        case measure => simp [strL, ByteArray.size_extract]; omega
      · have hbb : ((b : Int) == 0) = false := by simp; omega
        have HT : Hid _ := zl_stop h0 (fun e => hb0 (hb.symm.trans e))
        clear hb0
        go_wp2
        go_ret
        exact ⟨by rw [← HZ.out, HT.out]; rfl, rfl⟩
    · have e0 : t.size = 0 := by omega
      have HT : Hid _ := zl_nil e0
      go_wp2
      go_ret
      exact ⟨by rw [← HZ.out, HT.out]; rfl, rfl⟩
theorem trimR (s : ByteArray) (w : World) (hs : s.size ≤ 1000000000) : Calls Tryz.prog 295 #[.string s, .int .u8 0] w fun e w' => e = .returned (.string (zr s)) ∧ w' = w := by
  go_enter Tryz.func295, Tryz.ntmps295
  go_wp2
  go_loop [0] (fun v => ∃ t : ByteArray, v = .string t ∧ t.size ≤ s.size ∧ zr t = zr s) (fun v => strL v)
  case atStart => exact ⟨s, rfl, Nat.le_refl _, rfl⟩
  case round =>
    obtain ⟨t, rfl, ht, hz⟩ := hrel
    have HZ : Hid _ := hz
    clear hz
    by_cases h0 : 0 < t.size
    · obtain ⟨m, hm⟩ : ∃ m, t.size = m + 1 := ⟨t.size - 1, by omega⟩
      have hmt : m < t.size := by omega
      have hsub : (t.size : Int) - 1 = (m : Int) := by omega
      obtain ⟨b, hb⟩ : ∃ b : Nat, t[m].toNat = b := ⟨_, rfl⟩
      by_cases hb0 : b = 0
      · have hbb : ((b : Int) == 0) = true := by simp [hb0]
        have HT : Hid _ := zr_step hmt hm (hb.trans hb0)
        have HM : Hid _ := hm
        clear hb0 hm
        go_wp2
        go_round
        case rel => exact ⟨_, rfl, by rw [ByteArray.size_extract]; omega, HT.out.trans HZ.out⟩
        case measure => simp [strL, ByteArray.size_extract]; omega
      · have hbb : ((b : Int) == 0) = false := by simp; omega
        have HT : Hid _ := zr_stop hmt hm (fun e => hb0 (hb.symm.trans e))
        clear hb0 hm
        go_wp2
        go_ret
        exact ⟨by rw [← HZ.out, HT.out]; rfl, rfl⟩
    · have e0 : t.size = 0 := by omega
      have HT : Hid _ := zr_nil e0
      go_wp2
      go_ret
      exact ⟨by rw [← HZ.out, HT.out]; rfl, rfl⟩
/-- what is left -/
def tz (s : ByteArray) : ByteArray := zl (zr s)
theorem tz_nil (s : ByteArray) : (tz s).size = 0 ↔ AllZ s := (zl_all _ _ rfl).trans (zr_all _ _ rfl).1
theorem trim0 (s : ByteArray) (w : World) (hs : s.size ≤ 1000000000) : Calls Tryz.prog 261 #[.string s, .string ⟨#[0]⟩] w fun e w' => e = .returned (.string (tz s)) ∧ ∃ q, w' = w.drewN q := by
  by_cases h0 : s.size = 0
  · have e : s = ⟨#[]⟩ := ByteArray.ext (Array.eq_empty_of_size_eq_zero h0)
    subst e
    go_enter Tryz.func261, Tryz.ntmps261
    go_wp2
    go_ret
    exact ⟨rfl, 0, rfl⟩
  · have hne : (s.toList == (⟨#[]⟩ : ByteArray).toList) = false := txt_ne (fun e => h0 (by rw [e]; rfl))
    have hq1 : ¬ s.toList = [] := fun e => h0 (by rw [ByteArray.toList_eq] at e; have := congrArg List.length e; simpa using this)
    have hq2 : s.toList.isEmpty = false := by simpa using hq1
    have hz : (zr s).size ≤ 1000000000 := Nat.le_trans (zr_all _ _ rfl).2 hs
    have HZ : Hid _ := hz
    have HS : Hid _ := hs
    clear hz hs
    go_enter Tryz.func261, Tryz.ntmps261
    go_wp2_with fail
    go_quiet (first | (go_at_call 295; exact Calls.quiet_of_same (trimR s _ HS.out)) | (go_at_call 294; exact Calls.quiet_of_same (trimL (zr s) _)))
    go_wp2_with fail
    go_ret
    exact ⟨rfl, _, rfl⟩
end Go.Proofs.YtadinjaocnlglaaGreatDoor
namespace Go.Proofs.YtadinjaocnlglaaGreatDoor
open Go.RowKit
set_option maxRecDepth 100000
set_option maxHeartbeats 1000000
/-- cells from a place on -/
def ClO (w : World) (b o n : Nat) (v : Nat → Value) : Prop := ∀ i, i < n → w.cell? ⟨b, o + i, none⟩ = some (v i)
theorem ClO.below {w w' : World} {b o n : Nat} {v : Nat → Value} (h : ClO w b o n v) {B : Nat} (hb : Below B w w') (hB : b < B) : ClO w' b o n v := fun i hi => (hb.cell (p := ⟨b, o + i, none⟩) hB).trans (h i hi)
theorem index_none (h : Nat → Bool) (b n cap : Nat) (w : World) (hn : n ≤ 1000) (h2 : ∀ j, j < n → h j = false) (hc : Cl w b n (bI h)) :
    Calls Tryz.prog 293 #[.slice (some ⟨b, 0, none⟩) n cap, .bool true] w fun e w' => e = .returned (.int .i64 (-1)) ∧ w' = w := by
  have HC : Hid _ := hc
  have H2 : Hid _ := h2
  clear hc h2
  go_enter Tryz.func293, Tryz.ntmps293
  go_wp2
  go_loop [8] (fun iv => ∃ i : Nat, i ≤ n ∧ iv = .int .i64 i) (fun iv => n - (intOf iv).toNat)
  case atStart => exact ⟨0, by omega, rfl⟩
  case round =>
    obtain ⟨i, hi, rfl⟩ := hrel
    by_cases hlt : i < n
    · have c1 : w.cell? ⟨b, i, none⟩ = some (.bool (h i)) := HC.out i hlt
      rw [H2.out i hlt] at c1
      go_wp2
      go_round
      case rel => exact ⟨i + 1, by omega, by go_num⟩
      case measure => simp [intOf]; omega
    · go_wp2
      go_ret
      exact ⟨rfl, rfl⟩
theorem checkLengths_o (S : Nat → ByteArray) (h : Nat → Bool) (b o n cap b2 cap2 c i0 : Nat) (w : World) (hn : n ≤ 1000) (hi0 : i0 < n) (h1 : h i0 = true) (h2 : ∀ j, j < i0 → h j = false) (hS : ∀ i, i < n → h i = true → (S i).size = c) (hC : ClO w b o n (tI S)) (hc : Cl w b2 n (bI h)) :
    Calls Tryz.prog 257 #[.slice (some ⟨b, o, none⟩) n cap, .slice (some ⟨b2, 0, none⟩) n cap2] w fun e w' => e = .returned .nilIface ∧ ∃ q, w' = w.drewN q := by
  have H : Hid _ := fun W (hW : Cl W b2 n (bI h)) => index_found h b2 n cap2 i0 W hn hi0 h1 h2 hW
  have HC : Hid _ := hC
  have HB : Hid _ := hc
  have HS : Hid _ := hS
  have H1 : Hid _ := h1
  clear hC hc hS h1 h2
  go_enter Tryz.func257, Tryz.ntmps257
  go_wp2_with (go_at_call 293; refine (H.out _ HB.out).mono ?_; rintro e w' ⟨rfl, rfl⟩)
  go_loopw [12] (fun iv wr => ∃ i q : Nat, i ≤ n ∧ iv = .int .i64 i ∧ wr = w'.drewN q) (fun iv _ => n - (intOf iv).toNat)
  case atStart => exact ⟨0, 0, by omega, rfl, rfl⟩
  case round =>
    obtain ⟨i, q, hi, rfl, hq⟩ := hrel
    by_cases hlt : i < n
    · have c1 : wr.cell? ⟨b2, i, none⟩ = some (.bool (h i)) := by rw [hq]; exact HB.out i hlt
      have c2 : wr.cell? ⟨b, o + i, none⟩ = some (.string (S i)) := by rw [hq]; exact HC.out i hlt
      have c3 : wr.cell? ⟨b, o + i0, none⟩ = some (.string (S i0)) := by rw [hq]; exact HC.out i0 hi0
      have HQ : Hid _ := hq
      clear hq
      have hi0' : (0 : Int) ≤ (i : Int) := by omega
      have hin' : (i : Int) < (n : Int) := by omega
      have hj0' : (0 : Int) ≤ (i0 : Int) := by omega
      have hjn' : (i0 : Int) < (n : Int) := by omega
      by_cases hh : h i = true
      · rw [hh] at c1
        have hne : (((S i).size : Int) != ((S i0).size : Int)) = false := by rw [bne_eq_false_iff_eq, HS.out i hlt hh, HS.out i0 hi0 H1.out]
        go_wp2
        go_quiet (fail)
        go_wp2
        go_roundw
        case rel => exact ⟨i + 1, _, by omega, by go_num, by rw [HQ.out, World.drewN_drewN]⟩
        case measure => simp [intOf]; omega
      · have hf : h i = false := by simpa using hh
        rw [hf] at c1
        go_wp2
        go_quiet (fail)
        go_wp2
        go_roundw
        case rel => exact ⟨i + 1, _, by omega, by go_num, by rw [HQ.out, World.drewN_drewN]⟩
        case measure => simp [intOf]; omega
    · go_wp2
      go_ret
      exact ⟨rfl, q, rfl⟩
theorem checkLengths_n (S : Nat → ByteArray) (h : Nat → Bool) (b o n cap b2 cap2 : Nat) (w : World) (hn : n ≤ 1000) (h2 : ∀ j, j < n → h j = false) (hC : ClO w b o n (tI S)) (hc : Cl w b2 n (bI h)) :
    Calls Tryz.prog 257 #[.slice (some ⟨b, o, none⟩) n cap, .slice (some ⟨b2, 0, none⟩) n cap2] w fun e w' => e = .returned .nilIface ∧ ∃ q, w' = w.drewN q := by
  have H : Hid _ := fun W (hW : Cl W b2 n (bI h)) => index_none h b2 n cap2 W hn h2 hW
  have HC : Hid _ := hC
  have HB : Hid _ := hc
  have H2 : Hid _ := h2
  clear hC hc h2
  go_enter Tryz.func257, Tryz.ntmps257
  go_wp2_with (go_at_call 293; refine (H.out _ HB.out).mono ?_; rintro e w' ⟨rfl, rfl⟩)
  go_loopw [12] (fun iv wr => ∃ i q : Nat, i ≤ n ∧ iv = .int .i64 i ∧ wr = w'.drewN q) (fun iv _ => n - (intOf iv).toNat)
  case atStart => exact ⟨0, 0, by omega, rfl, rfl⟩
  case round =>
    obtain ⟨i, q, hi, rfl, hq⟩ := hrel
    by_cases hlt : i < n
    · have c1 : wr.cell? ⟨b2, i, none⟩ = some (.bool (h i)) := by rw [hq]; exact HB.out i hlt
      have c2 : wr.cell? ⟨b, o + i, none⟩ = some (.string (S i)) := by rw [hq]; exact HC.out i hlt
      have HQ : Hid _ := hq
      clear hq
      have hi0' : (0 : Int) ≤ (i : Int) := by omega
      have hin' : (i : Int) < (n : Int) := by omega
      rw [H2.out i hlt] at c1
      go_wp2
      go_quiet (fail)
      go_wp2
      go_roundw
      case rel => exact ⟨i + 1, _, by omega, by go_num, by rw [HQ.out, World.drewN_drewN]⟩
      case measure => simp [intOf]; omega
    · go_wp2
      go_ret
      exact ⟨rfl, q, rfl⟩
theorem cnt_zero (h : Nat → Bool) : ∀ n, cnt h n = 0 → ∀ j, j < n → h j = false
  | 0, _, _, hj => absurd hj (by omega)
  | n + 1, e, j, hj => by
    rw [cnt] at e
    by_cases hn : h n = true
    · rw [if_pos hn] at e; omega
    · by_cases ej : j = n
      · subst ej; simpa using hn
      · rw [if_neg hn] at e
        exact cnt_zero h n (by omega) j (by omega)
theorem fill_o (S : Nat → ByteArray) (p q : Nat → Nat) (n k m c b o cap b1 cap1 : Nat) (v2 : Value) (w : World) (hn : n ≤ 1000) (hk0 : 0 < k) (hk : k ≤ n) (hm : m ≤ n) (hn2 : n ≤ 256) (hc : c ≤ 140737488351232) (hS : ∀ i, i < k → (S (p i)).size = c) (hp : ∀ i, i < k → p i < n) (hq : ∀ i, i < m → q i < n)
    (hb : b < w.heap.size) (hb1 : b1 < w.heap.size) (hC : ClO w b o n (tI S)) (h1 : Cl w b1 k (pI p)) (h2 : Pts w v2 m q) :
    Calls Tryz.prog 259 #[.slice (some ⟨b, o, none⟩) n cap, .slice (some ⟨b1, 0, none⟩) k cap1, v2] w fun e w' => e = .returned (.slice (some ⟨w.heap.size, 0, none⟩) n n) ∧ Rw w' w.heap.size n 9 (filled S p q k m c) ∧ Below w.heap.size w w' := by
  have HS : Hid _ := hS
  have HP : Hid _ := hp
  have HQ : Hid _ := hq
  have HC : Hid _ := hC
  have H1 : Hid _ := h1
  have H2 : Hid _ := h2
  clear hS hp hq hC h1 h2
  have hmk := run_make_row' (P := Tryz.prog) 42 9 (.string ⟨#[]⟩) 16 Tryz.underlying42 info9 rfl .i64 .i64 n (by omega) (by omega)
  have hmk2 := run_make_row' (P := Tryz.prog) 42 9 (.string ⟨#[]⟩) 16 Tryz.underlying42 info9 rfl .i64 .i64 k (by omega) (by omega)
  go_enter Tryz.func259, Tryz.ntmps259
  go_wp2
  go_loopw [21] (fun iv wr => ∃ i : Nat, i ≤ k ∧ iv = .int .i64 i ∧ Below w.heap.size w wr ∧ Rw wr w.heap.size n 9 (puts (fun _ => .string ⟨#[]⟩) p (fun i => .string (S (p i))) i) ∧ Rw wr (w.heap.size + 1) k 9 (part' i (tI fun i => S (p i)) (.string ⟨#[]⟩))) (fun iv _ => k - (intOf iv).toNat)
  case atStart =>
    refine ⟨0, by omega, rfl, ((Below.refl _ _).alloc (Nat.le_refl _) _).alloc (by simp) _, (Rw.made w n 9 (.string ⟨#[]⟩)).alloc _, ?_⟩
    have := Rw.made (w.alloc (.cells (madeCells #[.string ⟨#[]⟩] n) 9)) k 9 (.string ⟨#[]⟩)
    have e : (w.alloc (.cells (madeCells #[.string ⟨#[]⟩] n) 9)).heap.size = w.heap.size + 1 := by simp
    rw [e] at this
    exact this.to (fun j _ => (part_0 _ _ j).symm)
  case round =>
    obtain ⟨i, hi, rfl, hbl, hA, hK⟩ := hrel
    by_cases hlt : i < k
    · have hpi := HP.out i hlt
      have c1 : wr.cell? ⟨b1, i, none⟩ = some (.int .i64 ((p i : Nat) : Int)) := Cl.below H1.out hbl hb1 i hlt
      have c2 : wr.cell? ⟨b, o + p i, none⟩ = some (.string (S (p i))) := ClO.below HC.out hbl hb (p i) hpi
      have c3 := hK.cell i hlt
      have c4 := hK.free i
      have hsz : (S (p i)).size ≤ 140737488351232 := by rw [HS.out i hlt]; exact hc
      have hpi2 : ((p i : Nat) : Int) < (n : Int) := by omega
      have hbw : b ≠ w.heap.size + 1 := by omega
      obtain ⟨x, hx⟩ : ∃ x, x = p i := ⟨_, rfl⟩
      rw [← hx] at c1 c2 hsz hpi2
      have HX : Hid _ := hx
      clear hx
      have c5 : (wr.setCell ⟨w.heap.size + 1, i, none⟩ (.string (S x))).cell? ⟨b, o + x, none⟩ = some (.string (S x)) :=
        (World.cell?_of_block (a := ⟨b, o + x, none⟩) (heap_setCell_other wr ⟨w.heap.size + 1, i, none⟩ b (.string (S x)) hbw)).trans c2
      go_wp2_with fail
      refine (sclone_any (S x) _ hsz).mono ?_
      rintro e w3 ⟨rfl, hB3⟩
      have hbz := hbl.size
      have hK3 : Rw w3 (w.heap.size + 1) k 9 (part' (i + 1) (tI fun i => S (p i)) (.string ⟨#[]⟩)) := ((hK.put i (.string (S x))).to (fun j _ => by rw [← part_step, HX.out]; rfl)).below hB3 ((hK.put i (.string (S x))).lt)
      have hA3 : Rw w3 w.heap.size n 9 (puts (fun _ => .string ⟨#[]⟩) p (fun i => .string (S (p i))) i) := (hA.other ⟨w.heap.size + 1, i, none⟩ (.string (S x)) (by simp)).below hB3 ((hA.other ⟨w.heap.size + 1, i, none⟩ (.string (S x)) (by simp)).lt)
      have hb3 : Below w.heap.size w w3 := (hbl.setCell (p := ⟨w.heap.size + 1, i, none⟩) (by simp) (.string (S x))).trans (hB3.mono (by simpa [World.setCell] using hbz))
      have c6 := hA3.cell x (by rw [HX.out]; exact hpi)
      have c7 := hA3.free x
      clear hB3 hbl hA hK c1 c2 c3 c4 c5
      go_wp2
      go_roundw
      case rel => exact ⟨i + 1, by omega, by go_num, hb3.setCell (Nat.le_refl _) _, by rw [HX.out]; exact hA3.put (p i) _, hK3.other _ _ (by simp)⟩
      case measure => simp [intOf]; omega
    · have e : i = k := by omega
      subst e
      have hK' : Cl wr (w.heap.size + 1) i (tI fun i => S (p i)) := (hK.to (fun j hj => by simp [part', hj])).cl
      have hf : Pts wr (.slice (some ⟨b1, 0, none⟩) i cap1) i p := .inr ⟨b1, cap1, rfl, Nat.lt_of_lt_of_le hb1 hbl.size, Cl.below H1.out hbl hb1⟩
      have ht : Pts wr v2 m q := Pts.below H2.out hbl
      have hkl := hK.lt
      have HK : Hid _ := hK'
      have HF : Hid _ := hf
      have HT : Hid _ := ht
      clear hK' hf ht hK
      go_wp2_with fail
      refine (values_any p q (fun i => S (p i)) i m c (w.heap.size + 1) i _ v2 wr hk0 (by omega) (by omega) hc HS.out (fun j hj => by have := HP.out j hj; omega) (fun j hj => by have := HQ.out j hj; omega) hkl HK.out HF.out HT.out).mono ?_
      rintro e w3 ⟨g, rfl, hg, hV3, hB3⟩
      have hA3 := hA.below hB3 hA.lt
      have hT3 := Pts.below HT.out hB3
      have hb3 := hbl.trans (hB3.mono hbl.size)
      have hgw : w.heap.size < g := by have := hbl.size; omega
      have HT3 : Hid _ := hT3
      clear hT3 HK HF HT hB3 hbl hA
      obtain ⟨b2, hb2, cap2, hv2⟩ : ∃ b2, b2 < w.heap.size ∧ ∃ cap2, (m = 0 ∨ (v2 = .slice (some ⟨b2, 0, none⟩) m cap2 ∧ Cl w3 b2 m (pI q))) := by
        rcases H2.out with ⟨_, h⟩ | ⟨b2, cap2, h, hl, hcl⟩
        · exact ⟨b, hb, 0, .inl h⟩
        · exact ⟨b2, hl, cap2, .inr ⟨h, Cl.below hcl hb3 hl⟩⟩
      have HV2 : Hid _ := hv2
      clear hv2
      go_wp2
      go_loopw [47] (fun jv wr => ∃ j : Nat, j ≤ m ∧ jv = .int .i64 j ∧ Below w.heap.size w wr ∧ Same w.heap.size w3 wr ∧ Rw wr w.heap.size n 9 (puts (puts (fun _ => .string ⟨#[]⟩) p (fun i => .string (S (p i))) i) q (tI (vl p q i c fun i => S (p i))) j)) (fun jv _ => m - (intOf jv).toNat)
      case atStart => exact ⟨0, by omega, rfl, hb3, fun _ _ => rfl, hA3⟩
      case round =>
        obtain ⟨j, hj, rfl, hbj, hsm, hA⟩ := hrel
        by_cases hlj : j < m
        · rcases HV2.out with h0 | ⟨hv, hcl⟩
          · omega
          · subst hv
            have hqj := HQ.out j hlj
            have c1 : wr.cell? ⟨g, j, none⟩ = some (.string (vl p q i c (fun i => S (p i)) j)) := (hsm.rw hV3 (by omega)).cell j hlj
            have c2 : wr.cell? ⟨b2, j, none⟩ = some (.int .i64 ((q j : Nat) : Int)) := hsm.cl hcl (by omega) j hlj
            have c3 := hA.cell (q j) hqj
            have c4 := hA.free (q j)
            have hq2 : ((q j : Nat) : Int) < (n : Int) := by omega
            have HA : Hid _ := hA
            have HSM : Hid _ := hsm
            clear hcl hsm hA hV3 hA3
            go_wp2
            go_roundw
            case rel => exact ⟨j + 1, by omega, by go_num, hbj.setCell (Nat.le_refl _) _, Same.put HSM.out (q j) _, Rw.put HA.out (q j) _⟩
            case measure => simp [intOf]; omega
        · have e : j = m := by omega
          subst e
          go_wp2
          go_ret
          exact ⟨rfl, hA, hbj⟩
theorem restore_o (S : Nat → ByteArray) (h : Nat → Bool) (k m c b o cap b2 cap2 i0 : Nat) (w : World) (hk1 : 1 ≤ k) (hkm : k + m ≤ 255) (hc : c ≤ 140737488351232) (hi0 : i0 < k + m) (h1 : h i0 = true) (h2 : ∀ j, j < i0 → h j = false) (hS : ∀ i, i < k + m → h i = true → (S i).size = c) (hK : (knL h k (k + m)).length = k)
    (hb : b < w.heap.size) (hb2 : b2 < w.heap.size) (hC : ClO w b o (k + m) (tI S)) (hB : Cl w b2 (k + m) (bI h)) :
    Calls Tryz.prog 221 #[.int .i64 k, .int .i64 m, .slice (some ⟨b, o, none⟩) (k + m) cap, .slice (some ⟨b2, 0, none⟩) (k + m) cap2] w fun e w' => ∃ g, e = .returned (.tuple #[.slice (some ⟨g, 0, none⟩) (k + m) (k + m), .nilIface]) ∧ w.heap.size ≤ g ∧
      Rw w' g (k + m) 9 (filled S (gt (knL h k (k + m))) (gt (wnL h k (k + m))) k (wnL h k (k + m)).length c) ∧ Below w.heap.size w w' := by
  have HL : Hid _ := checkLengths_o S h b o (k + m) cap b2 cap2 c i0 w (by omega) hi0 h1 h2 hS hC hB
  have hml := wnL_len h k (k + m)
  obtain ⟨n, hn⟩ : ∃ n, n = k + m := ⟨_, rfl⟩
  have hni : ((k : Int) + (m : Int)) = (n : Int) := by omega
  rw [← hn] at hS hK hC hB HL hi0 hml ⊢
  have hn255 : n ≤ 255 := by omega
  have HNI : Hid _ := hni
  have hkn : k ≤ n := by omega
  have HS : Hid _ := hS
  have HK : Hid _ := hK
  have HC : Hid _ := hC
  have HB : Hid _ := hB
  clear hS hC hB hK h1 h2 hn
  go_enter Tryz.func221, Tryz.ntmps221
  go_wp2_with fail
  refine (checkParams_ok k m _ hk1 hkm).mono ?_
  rintro e w' ⟨rfl, rfl⟩
  go_wp2_with fail
  refine (Calls.mono HL.out ?_)
  rintro e w1 ⟨rfl, q, hq⟩
  have HQ : Hid _ := hq
  have hC1 : ClO w1 b o n (tI S) := by rw [hq]; exact HC.out
  have hB1 : Cl w1 b2 n (bI h) := by rw [hq]; exact HB.out
  have hBel : Below w'.heap.size w' w1 := by rw [hq]; exact below_drewN (Below.refl _ _) q
  have hs1 : w1.heap.size = w'.heap.size := by rw [hq]; rfl
  have HC1 : Hid _ := hC1
  have HB1 : Hid _ := hB1
  have HS1 : Hid _ := hs1
  clear hC1 hB1 hq hs1 hni
  go_wp2_with fail
  refine (split_any h b2 n cap2 k w1 (by omega) (by omega) (by rw [HS1.out]; exact hb2) HB1.out).mono ?_
  rintro e w2 ⟨v1, v2, rfl, ho1, ho2, hB2⟩
  have hp2 := own_pts ho2
  obtain ⟨g1, cap1, hv1, hg1, hc1⟩ := own_cells ho1 (by rw [HK.out]; omega)
  rw [HK.out] at hv1 hc1
  subst hv1
  have HP2 : Hid _ := hp2
  have HC1' : Hid _ := hc1
  clear hp2 hc1 ho1 ho2
  have hbb : b < w2.heap.size := by have := HS1.out; have := hB2.size; omega
  have hC2 : ClO w2 b o n (tI S) := ClO.below HC1.out hB2 (by rw [HS1.out]; exact hb)
  have HC2 : Hid _ := hC2
  clear hC2
  go_wp2_with fail
  refine (fill_o S (gt (knL h k n)) (gt (wnL h k n)) n k (wnL h k n).length c b o cap g1 cap1 v2 w2 (by omega) (by omega) hkn hml (by omega) hc (fun i hi => ?_) (fun i hi => ?_) (fun i hi => ?_) hbb hg1 HC2.out HC1'.out HP2.out).mono ?_
  · have := knL_mem h k n _ (gt_mem (knL h k n) i (by rw [HK.out]; exact hi)); exact HS.out _ this.1 this.2
  · exact (knL_mem h k n _ (gt_mem (knL h k n) i (by rw [HK.out]; exact hi))).1
  · exact wnL_mem h k n _ (gt_mem (wnL h k n) i hi)
  rintro e w3 ⟨rfl, hR3, hB3⟩
  go_wp2
  go_ret2
  exact ⟨w2.heap.size, rfl, Nat.le_trans hBel.size hB2.size, hR3, (hBel.trans (hB2.mono hBel.size)).trans (hB3.mono (Nat.le_trans hBel.size hB2.size))⟩
theorem restore_few (S : Nat → ByteArray) (h : Nat → Bool) (k m c b o cap b2 cap2 : Nat) (w : World) (hk1 : 1 ≤ k) (hkm : k + m ≤ 255) (hS : ∀ i, i < k + m → h i = true → (S i).size = c) (hK : (knL h k (k + m)).length < k)
    (hb2 : b2 < w.heap.size) (hC : ClO w b o (k + m) (tI S)) (hB : Cl w b2 (k + m) (bI h)) :
    Calls Tryz.prog 221 #[.int .i64 k, .int .i64 m, .slice (some ⟨b, o, none⟩) (k + m) cap, .slice (some ⟨b2, 0, none⟩) (k + m) cap2] w fun e w' => ∃ z, e = .returned (.tuple #[.slice none 0 0, .iface 305 (.pointer (some ⟨z, 0, none⟩))]) ∧ Below w.heap.size w w' := by
  have HL : Hid (Calls Tryz.prog 257 #[.slice (some ⟨b, o, none⟩) (k + m) cap, .slice (some ⟨b2, 0, none⟩) (k + m) cap2] w fun e w' => e = .returned .nilIface ∧ ∃ q, w' = w.drewN q) := by
    by_cases hp : 0 < cnt h (k + m)
    · obtain ⟨i0, hi0, h1, h2⟩ := cnt_first h (k + m) hp
      exact checkLengths_o S h b o (k + m) cap b2 cap2 c i0 w (by omega) hi0 h1 h2 hS hC hB
    · exact checkLengths_n S h b o (k + m) cap b2 cap2 w (by omega) (cnt_zero h (k + m) (by omega)) hC hB
  obtain ⟨n, hn⟩ : ∃ n, n = k + m := ⟨_, rfl⟩
  have hni : ((k : Int) + (m : Int)) = (n : Int) := by omega
  rw [← hn] at hK hB HL ⊢
  have hn255 : n ≤ 255 := by omega
  have HNI : Hid _ := hni
  have HK : Hid _ := hK
  have HB : Hid _ := hB
  clear hS hC hB hK hn
  go_enter Tryz.func221, Tryz.ntmps221
  go_wp2_with fail
  refine (checkParams_ok k m _ hk1 hkm).mono ?_
  rintro e w' ⟨rfl, rfl⟩
  go_wp2_with fail
  refine (Calls.mono HL.out ?_)
  rintro e w1 ⟨rfl, q, hq⟩
  have HQ : Hid _ := hq
  have hB1 : Cl w1 b2 n (bI h) := by rw [hq]; exact HB.out
  have hBel : Below w'.heap.size w' w1 := by rw [hq]; exact below_drewN (Below.refl _ _) q
  have hs1 : w1.heap.size = w'.heap.size := by rw [hq]; rfl
  have HB1 : Hid _ := hB1
  have HS1 : Hid _ := hs1
  clear hB1 hq hs1 hni
  go_wp2_with fail
  refine (split_any h b2 n cap2 k w1 (by omega) (by omega) (by rw [HS1.out]; exact hb2) HB1.out).mono ?_
  rintro e w2 ⟨v1, v2, rfl, ho1, ho2, hB2⟩
  obtain ⟨a1, cap1, hv1⟩ := own_shape ho1
  have hkl : (knL h k n).length < k := HK.out
  obtain ⟨len, hlen⟩ : ∃ x, (knL h k n).length = x := ⟨_, rfl⟩
  rw [hlen] at hv1 hkl
  subst hv1
  clear ho1 ho2 hlen
  go_wp2_with fail
  refine (at_err 14 len w2).mono ?_
  rintro e w3 ⟨z, rfl, hz, hB3⟩
  clear hz
  go_wp2
  go_ret2
  exact ⟨z, rfl, (hBel.trans (hB2.mono hBel.size)).trans (hB3.mono (Nat.le_trans hBel.size hB2.size))⟩
end Go.Proofs.YtadinjaocnlglaaGreatDoor
