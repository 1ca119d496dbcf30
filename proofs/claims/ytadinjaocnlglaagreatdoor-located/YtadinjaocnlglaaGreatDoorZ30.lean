/-
  The walks of Head.Leaf and Stock.isGood.
  The walk of Stock.isForged.
-/
import Derived.Test.YtadinjaocnlglaaGreatDoorZ28
import Derived.Test.YtadinjaocnlglaaGreatDoorZ29
namespace Go.Proofs.YtadinjaocnlglaaGreatDoor
open Go.RowKit
set_option maxRecDepth 100000
set_option maxHeartbeats 4000000
theorem hleaf (g n : Nat) (lv : ByteArray) (w : World) (g7 : w.cell? ⟨g, 7, none⟩ = some (.string lv)) (hn : (n + 1) * 32 ≤ lv.size) (hl : lv.size ≤ 1000000) :
    Calls Tryz.prog 256 #[.pointer (some ⟨g, 0, none⟩), .int .i64 n] w fun e w' => e = .returned (.string (pc lv 32 n)) ∧ w' = w := by
  obtain ⟨lo, hlo⟩ : ∃ lo, n * 32 = lo := ⟨_, rfl⟩
  obtain ⟨up, hup⟩ : ∃ up, (n + 1) * 32 = up := ⟨_, rfl⟩
  have e1 : (n : Int) * 32 = ((lo : Nat) : Int) := by omega
  have e2 : ((n : Int) + 1) * 32 = ((up : Nat) : Int) := by omega
  have hll : lo ≤ up := by omega
  have hle : up ≤ lv.size := by omega
  have hn2 : n ≤ 1000000 := by omega
  have HPC : Hid (pc lv 32 n = lv.extract lo up) := by show pc lv 32 n = lv.extract lo up; unfold pc; rw [hlo, hup]
  clear hlo hup hn
  have hsl : ∀ W, (Instr.slice 9 (.string lv) (some (.int .i64 ((lo : Nat) : Int))) (some (.int .i64 ((up : Nat) : Int))) none).run Tryz.prog W = .ok (.string (lv.extract lo up)) W := fun W => by
    rw [run_slice_string W 9 lv .i64 .i64 _ _ Tryz.underlying9 (by omega) (by omega) (by omega), Int.toNat_natCast, Int.toNat_natCast]
  rw [HPC.out]
  go_enter Tryz.func256, Tryz.ntmps256
  go_wp2
  go_ret
  exact ⟨rfl, rfl⟩
/-- a block is there, and has its leaf -/
def goodB (kt : Nat → Int) (C : Nat) (lv : ByteArray) (n : Nat) (b : ByteArray) : Bool := decide (b.size = C ∧ leafT (ofT kt) b = pc lv 32 n)
theorem isGood_any (kt : Nat → Int) (k g n C : Nat) (lv b : ByteArray) (w : World) (a0 : w.cell? ⟨k, 0, none⟩ = some (.pointer (some ⟨g, 0, none⟩))) (g4 : w.cell? ⟨g, 4, none⟩ = some (.int .i64 C)) (g7 : w.cell? ⟨g, 7, none⟩ = some (.string lv)) (hG : Gd kt w)
    (hn : (n + 1) * 32 ≤ lv.size) (hl : lv.size ≤ 1000000) (hC : C ≤ 64) :
    Calls Tryz.prog 220 #[.pointer (some ⟨k, 0, none⟩), .int .i64 n, .string b] w fun e w' => e = .returned (.bool (goodB kt C lv n b)) ∧ Below w.heap.size w w' := by
  have hkl : k < w.heap.size := block_lt_of_cell a0
  have hgl : g < w.heap.size := block_lt_of_cell g4
  by_cases hs : b.size = C
  · have hs' : ((b.size : Int) == (C : Int)) = true := by rw [beq_iff_eq]; omega
    have H1 : Hid (∀ X : World, Below w.heap.size w X → Calls Tryz.prog 223 #[.string b] X fun e w' => e = .returned (.string (leafT (ofT kt) b)) ∧ Below X.heap.size X w') := fun X hX => leaf_any kt b X (by omega) (hG.below hX)
    have H2 : Hid (∀ X : World, Below w.heap.size w X → Calls Tryz.prog 256 #[.pointer (some ⟨g, 0, none⟩), .int .i64 n] X fun e w' => e = .returned (.string (pc lv 32 n)) ∧ w' = X) := fun X hX => hleaf g n lv X ((hX.cell (p := ⟨g, 7, none⟩) hgl).trans g7) hn hl
    obtain ⟨lf, hlf⟩ : ∃ x, leafT (ofT kt) b = x := ⟨_, rfl⟩
    obtain ⟨pv, hpv⟩ : ∃ x, pc lv 32 n = x := ⟨_, rfl⟩
    have HR : Hid (goodB kt C lv n b = (lf.toList == pv.toList)) := by
      show goodB kt C lv n b = _
      unfold goodB
      rw [hlf, hpv]
      by_cases e : lf = pv
      · rw [texts_eq e, decide_eq_true ⟨hs, e⟩]
      · rw [texts_ne e, decide_eq_false (fun h => e h.2)]
    rw [hlf] at H1
    rw [hpv] at H2
    clear hlf hpv hG hn hs g7
    go_enter Tryz.func220, Tryz.ntmps220
    go_wp2_with fail
    go_region_held3 (fun w2 => w2.cell? ⟨k, 0, none⟩ = some (.pointer (some ⟨g, 0, none⟩)) ∧ w2.cell? ⟨g, 4, none⟩ = some (.int .i64 C)) (go_keep) (first | (go_at_call 223; refine Calls.mono (H1.out _ (by first | exact Below.refl _ _ | exact (Below.refl _ _).drew)) ?_; rintro e w1 ⟨rfl, hb1⟩; have hB1 : Below w.heap.size w w1 := (by first | exact hb1 | exact ((Below.refl _ _).drew).trans hb1); have q0 := (hB1.cell (p := ⟨k, 0, none⟩) hkl).trans a0; have q4 := (hB1.cell (p := ⟨g, 4, none⟩) hgl).trans g4) | (go_at_call 256; refine Calls.mono (H2.out _ (by first | exact hB1 | exact Below.refl _ _ | exact (Below.refl _ _).drew)) ?_; rintro e w2 ⟨rfl, rfl⟩))
    go_wp2_with fail
    go_ret
    exact ⟨by rw [HR.out]; rfl, hB1⟩
  · have hs' : ((b.size : Int) == (C : Int)) = false := by rw [beq_eq_false_iff_ne]; omega
    have HR : Hid (goodB kt C lv n b = false) := decide_eq_false (fun h => hs h.1)
    rw [HR.out]
    clear hs hG g7 hn
    go_enter Tryz.func220, Tryz.ntmps220
    go_wp2_with fail
    go_quiet (fail)
    go_wp2_with fail
    go_ret
    exact ⟨rfl, below_drewN (Below.refl _ _) _⟩
end Go.Proofs.YtadinjaocnlglaaGreatDoor
namespace Go.Proofs.YtadinjaocnlglaaGreatDoor
open Go.RowKit
set_option maxRecDepth 100000
set_option maxHeartbeats 4000000
theorem jL_eq (F : Nat → ByteArray) (c : Nat) : ∀ n, (∀ i, i < n → (F i).size = c) → (jL F n).length = n * c
  | 0, _ => by simp [jL]
  | n + 1, h => by
    have ih := jL_eq F c n (fun i hi => h i (by omega))
    have e : jL F (n + 1) = jL F n ++ (F n).data.toList := by simp [jL, List.range_succ]
    rw [e, List.length_append, ih, dl, h n (by omega), Nat.succ_mul]
theorem jT_eq (F : Nat → ByteArray) (c n : Nat) (h : ∀ i, i < n → (F i).size = c) : (jT F n).size = n * c := by
  have := jL_eq F c n h
  show (jL F n).toArray.size = n * c
  simpa using this
/-- a block that was made contradicts neither its leaf nor a good one -/
def okI (kt : Nat → Int) (C : Nat) (lv : ByteArray) (o : Nat) (S : Nat → ByteArray) (h : Nat → Bool) (A : Nat → ByteArray) (i : Nat) : Bool := goodB kt C lv (o + i) (A i) && !(h i && !decide (A i = S i))
/-- what stands behind the end of the stream -/
def tlT (A : Nat → ByteArray) (K C s len : Nat) : ByteArray := (jT A K).extract (min (len - s * (K * C)) (K * C)) (K * C)
def frg (kt : Nat → Int) (K M C : Nat) (lv : ByteArray) (s len : Nat) (S : Nat → ByteArray) (h : Nat → Bool) (A : Nat → ByteArray) : Bool :=
  if ∀ i, i < K + M → okI kt C lv (s * (K + M)) S h A i = true then decide ((tz (tlT A K C s len)).size ≠ 0) else true
theorem goodB_size {kt : Nat → Int} {C : Nat} {lv : ByteArray} {n : Nat} {b : ByteArray} (h : goodB kt C lv n b = true) : b.size = C := (of_decide_eq_true h).1
theorem okI_size {kt : Nat → Int} {C : Nat} {lv : ByteArray} {o : Nat} {S : Nat → ByteArray} {h : Nat → Bool} {A : Nat → ByteArray} {i : Nat} (e : okI kt C lv o S h A i = true) : (A i).size = C := goodB_size (by unfold okI at e; rw [Bool.and_eq_true] at e; exact e.1)
theorem forged_any (kt : Nat → Int) (k g B K M C V num first s q b2 md n o len capq cap2 : Nat) (aE : Option Addr) (kE : Nat) (es : List (ByteArray × Nat)) (root lst lv : ByteArray) (vB : Value) (S A : Nat → ByteArray) (h : Nat → Bool) (w : World)
    (a0 : w.cell? ⟨k, 0, none⟩ = some (.pointer (some ⟨g, 0, none⟩))) (hg : w.heap[g]? = some (.cells (volC root lst K M C V (.slice aE es.length kE) lv num first vB) 319 (0, 0))) (ho : w.ownsRow B 70 2 (.slice aE es.length kE) es.length (enV es))
    (hl : es.length ≤ 16) (hsum : lenE es ≤ 4096) (hlen : lenE es = len) (hG : Gd kt w) (hK : 1 ≤ K) (hKM : K + M ≤ 255) (hn : n = K + M) (hC1 : 1 ≤ C) (hC : C ≤ 64) (hlv : (o + n) * 32 ≤ lv.size) (hlv2 : lv.size ≤ 1000000) (hso : s * (K + M) = o) (hs : s ≤ 10000) (hs2 : s * (K * C) < len)
    (hq : q < w.heap.size) (hS : ClO w q o n (tI S)) (hb2 : b2 < w.heap.size) (hh : Cl w b2 n (bI h)) (hA : Rw w md n 9 (tX A)) :
    Calls Tryz.prog 222 #[.pointer (some ⟨k, 0, none⟩), .int .i64 s, .slice (some ⟨q, o, none⟩) n capq, .slice (some ⟨b2, 0, none⟩) n cap2, .slice (some ⟨md, 0, none⟩) n n] w fun e w' => e = .returned (.bool (frg kt K M C lv s len S h A)) ∧ Below w.heap.size w w' := by
  have hkl : k < w.heap.size := block_lt_of_cell a0
  have hgl : g < w.heap.size := (Array.getElem?_eq_some_iff.1 hg).1
  have hml : md < w.heap.size := (Array.getElem?_eq_some_iff.1 hA).1
  have hoo : (s : Int) * (n : Int) = ((o : Nat) : Int) := by rw [hn, ← hso]; simp
  have HGD : Hid (∀ (X : World) (i : Nat), Below w.heap.size w X → i < n → Calls Tryz.prog 220 #[.pointer (some ⟨k, 0, none⟩), .int .i64 ((o + i : Nat) : Int), .string (A i)] X fun e w' => e = .returned (.bool (goodB kt C lv (o + i) (A i))) ∧ Below X.heap.size X w') := fun X i hX hi => by
    have e1 := (hX.block g hgl).trans hg
    exact isGood_any kt k g (o + i) C lv (A i) X ((hX.cell (p := ⟨k, 0, none⟩) hkl).trans a0) (cell_of_row _ _ _ _ 319 _ e1) (cell_of_row _ _ _ _ 319 _ e1) (hG.below hX) (Nat.le_trans (Nat.mul_le_mul_right 32 (by omega)) hlv) hlv2 hC
  have HCL : Hid (∀ (X : World) (i : Nat), Below w.heap.size w X → i < n → X.cell? ⟨md, i, none⟩ = some (.string (A i)) ∧ X.cell? ⟨b2, i, none⟩ = some (.bool (h i)) ∧ X.cell? ⟨q, o + i, none⟩ = some (.string (S i))) := fun X i hX hi =>
    ⟨(hX.cell (p := ⟨md, i, none⟩) hml).trans (hA.cell i hi), (hX.cell (p := ⟨b2, i, none⟩) hb2).trans (hh i hi), (hX.cell (p := ⟨q, o + i, none⟩) hq).trans (hS i hi)⟩
  have HHD : Hid (∀ X : World, Below w.heap.size w X → X.cell? ⟨k, 0, none⟩ = some (.pointer (some ⟨g, 0, none⟩)) ∧ X.cell? ⟨g, 2, none⟩ = some (.int .i64 K)) := fun X hX =>
    ⟨(hX.cell (p := ⟨k, 0, none⟩) hkl).trans a0, cell_of_row _ _ _ _ 319 _ ((hX.block g hgl).trans hg)⟩
  have HLN : Hid (∀ X : World, Below w.heap.size w X → Calls Tryz.prog 260 #[.pointer (some ⟨g, 0, none⟩)] X fun e w' => e = .returned (.int .i64 len) ∧ Below X.heap.size X w') := fun X hX => by
    rw [← hlen]
    exact hlength g B es.length kE aE es X (cell_of_row _ _ _ _ 319 _ ((hX.block g hgl).trans hg)) rfl (own_below ho hX) (fun i => Nat.le_trans (lenE_take_le es i) (by omega)) (by omega)
  have HJN : Hid (∀ X : World, Below w.heap.size w X → (∀ i, i < n → (A i).size = C) → Calls Tryz.prog 184 #[.slice (some ⟨md, 0, none⟩) K n, .string ⟨#[]⟩] X fun e w' => e = .returned (.string (jT A K)) ∧ Below X.heap.size X w') := fun X hX hz =>
    sjoin_any A md 0 K n C X (Nat.lt_of_lt_of_le hml hX.size) (by omega) (by omega) (by omega) (fun i hi => Nat.le_of_eq (hz i (by omega))) (fun i hi => by rw [Nat.zero_add]; exact (HCL.out X i hX (by omega)).1)
  have hle : len ≤ 4096 := by omega
  have hKC1 : 1 ≤ K * C := Nat.mul_pos hK hC1
  have hKC2 : K * C ≤ 100000 := Nat.le_trans (Nat.mul_le_mul (show K ≤ 255 by omega) hC) (by omega)
  have hKn : K ≤ n := by omega
  have hn255 : n ≤ 255 := by omega
  have hso2 : o ≤ 2550000 := by rw [← hso]; exact Nat.le_trans (Nat.mul_le_mul hs hKM) (by omega)
  have HFR : Hid (frg kt K M C lv s len S h A = if ∀ i, i < n → okI kt C lv o S h A i = true then decide ((tz (tlT A K C s len)).size ≠ 0) else true) := by show frg kt K M C lv s len S h A = _; unfold frg; rw [hn, hso]
  obtain ⟨res, hres⟩ : ∃ x, frg kt K M C lv s len S h A = x := ⟨_, rfl⟩
  rw [hres] at HFR ⊢
  have HJS : Hid (∀ i, i < n → (A i).size = C) → (jT A K).size = K * C := fun hz => jT_eq A C K (fun i hi => hz.out i (by omega))
  have HHJ : Hid _ := HJS
  clear a0 hg ho hl hsum hlen hG hn hlv hlv2 hso hS hh hA hres HJS
  go_enter Tryz.func222, Tryz.ntmps222
  go_wp2_with fail
  go_loopw [22] (fun iv wr => ∃ i : Nat, i ≤ n ∧ iv = .int .i64 i ∧ Below w.heap.size w wr ∧ ∀ j, j < i → okI kt C lv o S h A j = true) (fun iv _ => n - (intOf iv).toNat)
  case atStart => exact ⟨0, by omega, rfl, Below.refl _ _, fun j hj => absurd hj (by omega)⟩
  case round =>
    obtain ⟨i, hi, rfl, hB, hok⟩ := hrel
    have HB : Hid _ := hB
    have HOK : Hid _ := hok
    by_cases hlt : i < n
    · obtain ⟨c1, _, _⟩ := HCL.out wr i hB hlt
      have hin : (i : Int) < (n : Int) := by omega
      have HGI : Hid _ := HGD.out wr i hB hlt
      obtain ⟨x, hx⟩ : ∃ x, o + i = x := ⟨_, rfl⟩
      rw [hx] at HGI
      have hoi : (o : Int) + (i : Int) = (x : Int) := by omega
      have HX : Hid _ := hx
      clear hB hok hx
      go_wp2_with fail
      refine Calls.mono HGI.out ?_
      rintro e w1 ⟨rfl, hb1⟩
      have HB1 : Hid (Below w.heap.size w w1) := HB.out.trans (hb1.mono HB.out.size)
      obtain ⟨d1, d2, d3⟩ := HCL.out w1 i HB1.out hlt
      clear hb1 c1
      have HOI : Hid (okI kt C lv o S h A i = (goodB kt C lv x (A i) && !(h i && !decide (A i = S i)))) := by show okI kt C lv o S h A i = _; unfold okI; rw [HX.out]
      cases hgd : goodB kt C lv x (A i) with
      | false =>
        rw [hgd] at HOI
        have HRS : Hid (res = true) := by
          show res = true
          rw [HFR.out, if_neg (fun ha => by have := ha i hlt; rw [HOI.out] at this; cases this)]
        clear hgd
        go_wp2_with fail
        go_ret
        exact ⟨by rw [HRS.out]; rfl, HB1.out⟩
      | true =>
        rw [hgd] at HOI
        cases hhi : h i with
        | false =>
          rw [hhi] at HOI d2
          clear hgd hhi
          go_wp2_with fail
          go_roundw
          case rel => exact ⟨i + 1, by omega, by go_num, HB1.out, fun j hj => by
            by_cases e : j = i
            · subst e; exact HOI.out
            · exact HOK.out j (by omega)⟩
          case measure => simp [intOf]; omega
        | true =>
          rw [hhi] at HOI d2
          by_cases hAS : A i = S i
          · have hx : (!((A i).toList == (S i).toList)) = false := by rw [texts_eq hAS]; rfl
            have HOI2 : Hid (okI kt C lv o S h A i = true) := by show okI kt C lv o S h A i = true; rw [HOI.out, decide_eq_true hAS]; rfl
            clear hgd hhi HOI hAS
            go_wp2_with fail
            go_roundw
            case rel => exact ⟨i + 1, by omega, by go_num, HB1.out, fun j hj => by
              by_cases e : j = i
              · subst e; exact HOI2.out
              · exact HOK.out j (by omega)⟩
            case measure => simp [intOf]; omega
          · have hx : (!((A i).toList == (S i).toList)) = true := by rw [texts_ne hAS]; rfl
            have HRS : Hid (res = true) := by
              show res = true
              rw [HFR.out, if_neg (fun ha => by have := ha i hlt; rw [HOI.out, decide_eq_false hAS] at this; cases this)]
            clear hgd hhi HOI hAS
            go_wp2_with fail
            go_ret
            exact ⟨by rw [HRS.out]; rfl, HB1.out⟩
    · have ei : i = n := by omega
      subst ei
      have hz : ∀ j, j < i → (A j).size = C := fun j hj => okI_size (hok j hj)
      have hjs := HHJ.out hz
      obtain ⟨z, hzz⟩ : ∃ z, K * C = z := ⟨_, rfl⟩
      obtain ⟨m, hm⟩ : ∃ m, s * z = m := ⟨_, rfl⟩
      have HRS : Hid (res = decide ((tz (tlT A K C s len)).size ≠ 0)) := by show res = _; rw [HFR.out, if_pos hok]
      obtain ⟨e1, he1⟩ : ∃ e1, min (len - m) z = e1 := ⟨_, rfl⟩
      have HTL : Hid (tlT A K C s len = (jT A K).extract e1 z) := by show tlT A K C s len = _; unfold tlT; rw [hzz, hm, he1]
      rw [hzz] at hjs hs2 hKC1 hKC2
      rw [hm] at hs2
      have hmm : (s : Int) * (z : Int) = (m : Int) := by rw [← hm]; simp
      have hsub : (len : Int) - (m : Int) = ((len - m : Nat) : Int) := by omega
      obtain ⟨x2, x3⟩ := HHD.out wr hB
      have HZ : Hid _ := hz
      clear hok hB hz hzz hm
      go_wp2_with fail
      refine (HJN.out wr HB.out HZ.out).mono ?_
      rintro e w1 ⟨rfl, hb1⟩
      have HB1 : Hid (Below w.heap.size w w1) := HB.out.trans (hb1.mono HB.out.size)
      obtain ⟨y2, y3⟩ := HHD.out w1 HB1.out
      clear hb1 x2 x3
      obtain ⟨D, hD⟩ : ∃ D, jT A K = D := ⟨_, rfl⟩
      rw [hD] at hjs HTL ⊢
      clear hD
      go_wp2_with fail
      refine (HLN.out w1 HB1.out).mono ?_
      rintro e w2 ⟨rfl, hb2⟩
      have HB2 : Hid (Below w.heap.size w w2) := HB1.out.trans (hb2.mono HB1.out.size)
      clear hb2 y2 y3
      have hmi : (min ((len - m : Nat) : Int) (z : Int)).toNat = e1 := by omega
      have HSZ : Hid ((D.extract e1 z).size ≤ 1000000000) := by show (D.extract e1 z).size ≤ 1000000000; rw [ByteArray.size_extract]; omega
      have HMI : Hid _ := hmi
      clear hmi he1
      go_wp2_with fail
      rw [HMI.out]
      rw [HTL.out] at HRS
      refine Calls.mono (trim0 (D.extract e1 z) w2 HSZ.out) ?_
      rintro e w3 ⟨rfl, qd, hw3⟩
      have HB3 : Hid (Below w.heap.size w w3) := by show Below w.heap.size w w3; rw [hw3]; exact below_drewN HB2.out _
      clear hw3
      obtain ⟨L, hL⟩ : ∃ L, tz (D.extract e1 z) = L := ⟨_, rfl⟩
      rw [hL] at HRS ⊢
      clear hL
      by_cases hL0 : L.size = 0
      · have e0 : L = ⟨#[]⟩ := ByteArray.ext (Array.eq_empty_of_size_eq_zero hL0)
        have HR2 : Hid (res = false) := by show res = false; rw [HRS.out]; exact decide_eq_false (fun h => h hL0)
        subst e0
        clear hL0
        go_wp2_with fail
        go_ret
        exact ⟨by rw [HR2.out]; rfl, HB3.out⟩
      · have hq1 : ¬ L.toList = [] := fun e => hL0 (by rw [ByteArray.toList_eq] at e; have := congrArg List.length e; simpa using this)
        have hq2 : L.toList.isEmpty = false := by simpa using hq1
        have HR2 : Hid (res = true) := by show res = true; rw [HRS.out]; exact decide_eq_true hL0
        clear hL0
        go_wp2_with fail
        go_ret
        exact ⟨by rw [HR2.out]; rfl, HB3.out⟩
end Go.Proofs.YtadinjaocnlglaaGreatDoor
