/-
  The document's answer to Restore.
-/
import Derived.Test.YtbjgchlckmecaaaDoorQ8
import Derived.Test.YtbjgchlckmecaaaDoorQ5
namespace Go.Proofs.YtbjgchlckmecaaaDoor
open Go.RowKit
set_option maxRecDepth 100000
set_option maxHeartbeats 2000000
/-- the document's Restore answers o -/
def RRef (o : Out) (K M : Int) (v vb : Value) (w : World) : Prop := Calls Tryd.prog 16 #[.int .i64 K, .int .i64 M, v, vb] w fun e w' => ∃ x y, e = .returned (.tuple #[x, y]) ∧ RefOut w o x y w'
theorem rref_params (K M i : Int) (v vb : Value) (w : World) (h : NoPar K M i) : RRef (.bad 1 i) K M v vb w := by
  have H : Hid _ := pt_bad K M i w h
  clear h
  unfold RRef
  go_enter Tryd.func16, Tryd.ntmps16
  go_wp2_with fail
  refine Calls.mono H.out ?_
  rintro e w1 ⟨rfl, rfl⟩
  go_wp2
  go_ret2
  exact ⟨_, _, rfl, refBad w w 1 i (Below.refl _ _)⟩
theorem rref_range (k m n cap : Nat) (a : Option Addr) (vb : Value) (w : World) (hk1 : 1 ≤ k) (hkm : k + m ≤ 255) (hn : n ≠ k + m) : RRef (.bad 15 n) k m (.slice a n cap) vb w := by
  have hne : ((n : Int) != (k : Int) + (m : Int)) = true := by rw [bne_iff_ne]; omega
  unfold RRef
  go_enter Tryd.func16, Tryd.ntmps16
  go_wp2_with fail
  refine (pt_ok k m w hk1 hkm).mono ?_
  rintro e w1 ⟨rfl, rfl⟩
  go_wp2_with fail
  refine (at_any 15 n w1).mono ?_
  rintro e w2 ⟨rfl, rfl⟩
  go_wp2
  go_ret2
  exact ⟨_, _, rfl, refBad w1 w1 15 n (Below.refl _ _)⟩
theorem rref_range2 (k m n cap nh cap2 : Nat) (a a2 : Option Addr) (w : World) (hk1 : 1 ≤ k) (hkm : k + m ≤ 255) (hn : n = k + m) (hh : nh ≠ k + m) : RRef (.bad 15 nh) k m (.slice a n cap) (.slice a2 nh cap2) w := by
  have hne : ((n : Int) != (k : Int) + (m : Int)) = false := by rw [bne_eq_false_iff_eq]; omega
  have hne2 : ((nh : Int) != (k : Int) + (m : Int)) = true := by rw [bne_iff_ne]; omega
  clear hn hh
  unfold RRef
  go_enter Tryd.func16, Tryd.ntmps16
  go_wp2_with fail
  refine (pt_ok k m w hk1 hkm).mono ?_
  rintro e w1 ⟨rfl, rfl⟩
  go_wp2_with fail
  refine (at_any 15 nh w1).mono ?_
  rintro e w2 ⟨rfl, rfl⟩
  go_wp2
  go_ret2
  exact ⟨_, _, rfl, refBad w1 w1 15 nh (Below.refl _ _)⟩
/-- texts at places, as values -/
def tS (S : Nat → ByteArray) (l : List Nat) : List Value := l.map fun p => .string (S p)
theorem tS_snoc (S : Nat → ByteArray) (l : List Nat) (i : Nat) : tS S (l ++ [i]) = tS S l ++ [.string (S i)] := by simp [tS]
theorem tS_get (S : Nat → ByteArray) (l : List Nat) (i : Nat) (h : i < l.length) : (tS S l)[i]? = some (.string (S (gt l i))) := by
  simp [tS, gt, h]
theorem own_tS {w : World} {B : Nat} {a : Option Addr} {c L : Nat} {S : Nat → ByteArray} {l : List Nat} (h : w.ownsRow B 9 1 (.slice a L c) L (tS S l)) (hl : l.length = L) (h0 : 0 < L) : ∃ g, a = some ⟨g, 0, none⟩ ∧ g < w.heap.size ∧ L ≤ c ∧ ∀ i, i < L → w.cell? ⟨g, i, none⟩ = some (.string (S (gt l i))) := by
  rcases h.2 with ⟨e, e0⟩ | ⟨g, cap, cur, hv, hg, hh, hc, rest⟩
  · omega
  · simp only [Value.slice.injEq] at hv
    obtain ⟨rfl, _, rfl⟩ := hv
    exact ⟨g, rfl, (Array.getElem?_eq_some_iff.1 hh).1, hc, fun i hi => by rw [h.cellAt i (by omega), tS_get S l i (by omega)]⟩
theorem own_vI {w : World} {B : Nat} {a : Option Addr} {c L : Nat} {l : List Nat} (h : w.ownsRow B 3 1 (.slice a L c) L (vI l)) (hl : l.length = L) (h0 : 0 < L) : ∃ g, a = some ⟨g, 0, none⟩ ∧ g < w.heap.size ∧ L ≤ c ∧ ∀ i, i < L → w.cell? ⟨g, i, none⟩ = some (.int .i64 ((gt l i : Nat) : Int)) := by
  rcases h.2 with ⟨e, e0⟩ | ⟨g, cap, cur, hv, hg, hh, hc, rest⟩
  · omega
  · simp only [Value.slice.injEq] at hv
    obtain ⟨rfl, _, rfl⟩ := hv
    exact ⟨g, rfl, (Array.getElem?_eq_some_iff.1 hh).1, hc, fun i hi => by rw [h.cellAt i (by omega), vI_get l i (by omega)]⟩
theorem rref_main (o : Out) (S : Nat → ByteArray) (h : Nat → Bool) (k m n N b o1 cap b2 o2 cap2 c : Nat) (w : World) (hk1 : 1 ≤ k) (hkm : k + m ≤ 255) (hn : n = k + m) (hc : c ≤ 1000000000000) (hN : N ≤ n) (hS : ∀ i, i < N → h i = true → (S i).size = c)
    (hcase : (o = .bad 4 N ∧ N < n ∧ h N = true ∧ (S N).size ≠ c ∧ 0 < (hsL h N).length) ∨ (N = n ∧ ∃ L : Nat, (hsL h n).length = L ∧ L < k ∧ o = .bad 14 L) ∨ (N = n ∧ (knL h k n).length = k ∧ o = .good n (resT S (gt (knL h k n)) k c)))
    (hb : b < w.heap.size) (hC : ∀ i, i < n → w.cell? ⟨b, o1 + i, none⟩ = some (.string (S i))) (hb2 : b2 < w.heap.size) (hC2 : ∀ i, i < n → w.cell? ⟨b2, o2 + i, none⟩ = some (.bool (h i))) :
    RRef o k m (.slice (some ⟨b, o1, none⟩) n cap) (.slice (some ⟨b2, o2, none⟩) n cap2) w := by
  have HC : Hid _ := hC
  have HC2 : Hid _ := hC2
  have HS : Hid _ := hS
  have HCA : Hid _ := hcase
  have HNI : Hid (((k : Int) + (m : Int)) = (n : Int)) := by show ((k : Int) + (m : Int)) = (n : Int); omega
  have hn255 : n ≤ 255 := by omega
  have hkn : k ≤ n := by omega
  clear hC hC2 hS hcase
  have hne : ((n : Int) != (k : Int) + (m : Int)) = false := by rw [bne_eq_false_iff_eq]; omega
  have HN : Hid _ := hn
  clear hn
  obtain ⟨i00, hi3, hz0, hz1, hz2⟩ := info_parts info3
  obtain ⟨i01, hi9, hy0, hy1, hy2⟩ := info_parts info9
  unfold RRef
  go_enter Tryd.func16, Tryd.ntmps16
  go_wp2_with fail
  refine (pt_ok k m w hk1 hkm).mono ?_
  rintro e w1 ⟨rfl, rfl⟩
  go_wp2
  go_loopw [13, 11, 12] (fun iv v1 v2 wr => ∃ i L : Nat, i ≤ N ∧ iv = .int .i64 i ∧ (hsL h i).length = L ∧ wr.ownsRow w1.heap.size 3 1 v1 L (vI (hsL h i)) ∧ wr.ownsRow w1.heap.size 9 1 v2 L (tS S (hsL h i)) ∧ Apt v1 v2 ∧ Below w1.heap.size w1 wr) (fun iv _ _ _ => n - (intOf iv).toNat)
  case atStart => exact ⟨0, 0, by omega, rfl, rfl, World.ownsRow_nil _ _ _ _, World.ownsRow_nil _ _ _ _, fun g a _ => by simp [Value.ownBlock] at a, Below.refl _ _⟩
  case round =>
    obtain ⟨i, L, hi, rfl, hLe, ho1, ho2, hap, hbl⟩ := hrel
    obtain ⟨a1, cp1, hu⟩ := own_shape ho1
    subst hu
    obtain ⟨a2, cp2, hu⟩ := own_shape ho2
    subst hu
    have hLi : L ≤ i := by rw [← hLe]; exact hsL_len h i
    have HLE : Hid _ := hLe
    have HO1 : Hid (wr.ownsRow w1.heap.size 3 1 (.slice a1 L cp1) L (vI (hsL h i))) := ho1
    have HO2 : Hid (wr.ownsRow w1.heap.size 9 1 (.slice a2 L cp2) L (tS S (hsL h i))) := ho2
    have HAP : Hid (Apt (.slice a1 L cp1) (.slice a2 L cp2)) := hap
    have HBL : Hid (Below w1.heap.size w1 wr) := hbl
    clear hLe ho1 ho2 hap hbl
    by_cases hlt : i < N
    · have hin : (i : Int) < (k : Int) + (m : Int) := by rw [HNI.out]; omega
      have hin2 : (i : Int) < (n : Int) := by omega
      have c1 : wr.cell? ⟨b2, o2 + i, none⟩ = some (.bool (h i)) := (HBL.out.cell (p := ⟨b2, o2 + i, none⟩) hb2).trans (HC2.out i (by omega))
      by_cases hh : h i = true
      · rw [hh] at c1
        have c2 : wr.cell? ⟨b, o1 + i, none⟩ = some (.string (S i)) := (HBL.out.cell (p := ⟨b, o1 + i, none⟩) hb).trans (HC.out i (by omega))
        have HK1 : Hid (hsL h (i + 1) = hsL h i ++ [i]) := by show hsL h (i + 1) = _; rw [hsL, if_pos hh]
        have hsi := HS.out i hlt hh
        by_cases hL0 : 0 < L
        · obtain ⟨g2, ha2, _, _, hcl⟩ := own_tS HO2.out HLE.out hL0
          subst ha2
          have c3 : wr.cell? ⟨g2, 0, none⟩ = some (.string (S (gt (hsL h i) 0))) := hcl 0 hL0
          have hmem := hsL_mem h i _ (gt_mem (hsL h i) 0 (by rw [HLE.out]; exact hL0))
          have hs2 := HS.out (gt (hsL h i) 0) (by omega) hmem.2
          have hne2 : (((S i).size : Int) != ((S (gt (hsL h i) 0)).size : Int)) = false := by rw [bne_eq_false_iff_eq, hsi, hs2]
          have hd : (0 : Int) < (L : Int) := by omega
          have hi0' : (0 : Int) ≤ (i : Int) := by omega
          clear hcl hmem hs2
          go_wp2
          go_quiet (fail)
          have P1 : Hid ((wr.drewN nq).ownsRow w1.heap.size 3 1 (.slice a1 L cp1) L (vI (hsL h i))) := own_below HO1.out (below_drewN (Below.refl _ _) nq)
          have P2 : Hid ((wr.drewN nq).ownsRow w1.heap.size 9 1 (.slice (some ⟨g2, 0, none⟩) L cp2) L (tS S (hsL h i))) := own_below HO2.out (below_drewN (Below.refl _ _) nq)
          have PB : Hid (Below w1.heap.size w1 (wr.drewN nq)) := below_drewN HBL.out nq
          obtain ⟨wq, hwq⟩ : ∃ wq, wq = wr.drewN nq := ⟨_, rfl⟩
          rw [← hwq] at P1 P2 PB ⊢
          clear hwq HO1 HO2 HBL c1 c2 c3
          have hB' : w1.heap.size ≤ (wq.alloc (Obj.cells #[Value.int IntKind.i64 ((i : Nat) : Int)] 3)).heap.size := by have := PB.out.size; simp; omega
          go_wp2_with (at_builtin; refine wpList_append_own_at _ rfl (.tmp 71) (.tmp 73) 56 rfl w1.heap.size 3 i00 (.int .i64 0) 1 8 Tryd.underlying56 hi3 hz0 hz1 hz2 rfl (by decide) _ L (vI (hsL h i)) rfl (P1.out.alloc _) ⟨wq.heap.size, 0, none⟩ 1 1 [.int .i64 ((i : Nat) : Int)] rfl rfl (cell_one_new _ _ _) (one_cell _) ?kb ?kc hB' ?_)
          case kb => unfold maxLen; omega
          case kc => omega
          intro v' w' hown' hgrow _ hblk
          have Q2 : Hid (w'.ownsRow w1.heap.size 9 1 (.slice (some ⟨g2, 0, none⟩) L cp2) L (tS S (hsL h i))) := (P2.out.alloc (Obj.cells #[Value.int IntKind.i64 ((i : Nat) : Int)] 3)).kept hgrow HAP.out.ne
          have QA : Hid (Apt v' (.slice (some ⟨g2, 0, none⟩) L cp2)) := Apt.step HAP.out (P2.out.alloc (Obj.cells #[Value.int IntKind.i64 ((i : Nat) : Int)] 3)) (by simpa using hblk)
          have QB : Hid (Below w1.heap.size w1 w') := (PB.out.alloc PB.out.size _).grown hgrow hB' (fun g hg => (own_lt P1.out g hg).1)
          have Q1 : Hid (w'.ownsRow w1.heap.size 3 1 v' (L + 1) (vI (hsL h (i + 1)))) := by show w'.ownsRow _ _ _ _ _ _; rw [HK1.out, vI_snoc]; exact hown'
          have c2 : w'.cell? ⟨b, o1 + i, none⟩ = some (.string (S i)) := (QB.out.cell (p := ⟨b, o1 + i, none⟩) hb).trans (HC.out i (by omega))
          clear hown' hgrow hblk P1 P2 PB hB' HAP
          have hB' : w1.heap.size ≤ (w'.alloc (Obj.cells #[Value.string (S i)] 9)).heap.size := by have := QB.out.size; simp; omega
          go_wp2_with (at_builtin; refine wpList_append_own_at _ rfl (.tmp 75) (.tmp 80) 31 rfl w1.heap.size 9 i01 (.string ⟨#[]⟩) 1 16 Tryd.underlying31 hi9 hy0 hy1 hy2 rfl (by decide) _ L (tS S (hsL h i)) rfl (Q2.out.alloc _) ⟨w'.heap.size, 0, none⟩ 1 1 [.string (S i)] rfl rfl (cell_one_new _ _ _) (str_one _) ?kb ?kc hB' ?_)
          case kb => unfold maxLen; omega
          case kc => omega
          intro v'' w'' hown' hgrow _ hblk
          have R1 : Hid (w''.ownsRow w1.heap.size 3 1 v' (L + 1) (vI (hsL h (i + 1)))) := (Q1.out.alloc (Obj.cells #[Value.string (S i)] 9)).kept hgrow QA.out.symm.ne
          have RA : Hid (Apt v'' v') := Apt.step QA.out.symm (Q1.out.alloc (Obj.cells #[Value.string (S i)] 9)) (by simpa using hblk)
          have RB : Hid (Below w1.heap.size w1 w'') := (QB.out.alloc QB.out.size _).grown hgrow hB' (fun g hg => (own_lt Q2.out g hg).1)
          have R2 : Hid (w''.ownsRow w1.heap.size 9 1 v'' (L + 1) (tS S (hsL h (i + 1)))) := by show w''.ownsRow _ _ _ _ _ _; rw [HK1.out, tS_snoc]; exact hown'
          clear hown' hgrow hblk Q1 Q2 QA QB hB' c2
          go_wp2
          go_roundw
          case rel => exact ⟨i + 1, L + 1, by omega, by go_num, by rw [HK1.out]; simp [HLE.out], R1.out, R2.out, RA.out.symm, RB.out⟩
          case measure => simp [intOf]; omega
        · have hd : decide ((0 : Int) < (L : Int)) = false := by simp; omega
          have hi0' : (0 : Int) ≤ (i : Int) := by omega
          go_wp2
          go_quiet (fail)
          have P1 : Hid ((wr.drewN nq).ownsRow w1.heap.size 3 1 (.slice a1 L cp1) L (vI (hsL h i))) := own_below HO1.out (below_drewN (Below.refl _ _) nq)
          have P2 : Hid ((wr.drewN nq).ownsRow w1.heap.size 9 1 (.slice a2 L cp2) L (tS S (hsL h i))) := own_below HO2.out (below_drewN (Below.refl _ _) nq)
          have PB : Hid (Below w1.heap.size w1 (wr.drewN nq)) := below_drewN HBL.out nq
          obtain ⟨wq, hwq⟩ : ∃ wq, wq = wr.drewN nq := ⟨_, rfl⟩
          rw [← hwq] at P1 P2 PB ⊢
          clear hwq HO1 HO2 HBL c1 c2 
          have hB' : w1.heap.size ≤ (wq.alloc (Obj.cells #[Value.int IntKind.i64 ((i : Nat) : Int)] 3)).heap.size := by have := PB.out.size; simp; omega
          go_wp2_with (at_builtin; refine wpList_append_own_at _ rfl (.tmp 71) (.tmp 73) 56 rfl w1.heap.size 3 i00 (.int .i64 0) 1 8 Tryd.underlying56 hi3 hz0 hz1 hz2 rfl (by decide) _ L (vI (hsL h i)) rfl (P1.out.alloc _) ⟨wq.heap.size, 0, none⟩ 1 1 [.int .i64 ((i : Nat) : Int)] rfl rfl (cell_one_new _ _ _) (one_cell _) ?kb ?kc hB' ?_)
          case kb => unfold maxLen; omega
          case kc => omega
          intro v' w' hown' hgrow _ hblk
          have Q2 : Hid (w'.ownsRow w1.heap.size 9 1 (.slice a2 L cp2) L (tS S (hsL h i))) := (P2.out.alloc (Obj.cells #[Value.int IntKind.i64 ((i : Nat) : Int)] 3)).kept hgrow HAP.out.ne
          have QA : Hid (Apt v' (.slice a2 L cp2)) := Apt.step HAP.out (P2.out.alloc (Obj.cells #[Value.int IntKind.i64 ((i : Nat) : Int)] 3)) (by simpa using hblk)
          have QB : Hid (Below w1.heap.size w1 w') := (PB.out.alloc PB.out.size _).grown hgrow hB' (fun g hg => (own_lt P1.out g hg).1)
          have Q1 : Hid (w'.ownsRow w1.heap.size 3 1 v' (L + 1) (vI (hsL h (i + 1)))) := by show w'.ownsRow _ _ _ _ _ _; rw [HK1.out, vI_snoc]; exact hown'
          have c2 : w'.cell? ⟨b, o1 + i, none⟩ = some (.string (S i)) := (QB.out.cell (p := ⟨b, o1 + i, none⟩) hb).trans (HC.out i (by omega))
          clear hown' hgrow hblk P1 P2 PB hB' HAP
          have hB' : w1.heap.size ≤ (w'.alloc (Obj.cells #[Value.string (S i)] 9)).heap.size := by have := QB.out.size; simp; omega
          go_wp2_with (at_builtin; refine wpList_append_own_at _ rfl (.tmp 75) (.tmp 80) 31 rfl w1.heap.size 9 i01 (.string ⟨#[]⟩) 1 16 Tryd.underlying31 hi9 hy0 hy1 hy2 rfl (by decide) _ L (tS S (hsL h i)) rfl (Q2.out.alloc _) ⟨w'.heap.size, 0, none⟩ 1 1 [.string (S i)] rfl rfl (cell_one_new _ _ _) (str_one _) ?kb ?kc hB' ?_)
          case kb => unfold maxLen; omega
          case kc => omega
          intro v'' w'' hown' hgrow _ hblk
          have R1 : Hid (w''.ownsRow w1.heap.size 3 1 v' (L + 1) (vI (hsL h (i + 1)))) := (Q1.out.alloc (Obj.cells #[Value.string (S i)] 9)).kept hgrow QA.out.symm.ne
          have RA : Hid (Apt v'' v') := Apt.step QA.out.symm (Q1.out.alloc (Obj.cells #[Value.string (S i)] 9)) (by simpa using hblk)
          have RB : Hid (Below w1.heap.size w1 w'') := (QB.out.alloc QB.out.size _).grown hgrow hB' (fun g hg => (own_lt Q2.out g hg).1)
          have R2 : Hid (w''.ownsRow w1.heap.size 9 1 v'' (L + 1) (tS S (hsL h (i + 1)))) := by show w''.ownsRow _ _ _ _ _ _; rw [HK1.out, tS_snoc]; exact hown'
          clear hown' hgrow hblk Q1 Q2 QA QB hB' c2
          go_wp2
          go_roundw
          case rel => exact ⟨i + 1, L + 1, by omega, by go_num, by rw [HK1.out]; simp [HLE.out], R1.out, R2.out, RA.out.symm, RB.out⟩
          case measure => simp [intOf]; omega
      · have hf : h i = false := by simpa using hh
        rw [hf] at c1
        have HK1 : Hid (hsL h (i + 1) = hsL h i) := by show hsL h (i + 1) = _; rw [hsL, if_neg hh]
        go_wp2
        go_roundw
        case rel => exact ⟨i + 1, L, by omega, by go_num, by rw [HK1.out]; exact HLE.out, by rw [HK1.out]; exact HO1.out, by rw [HK1.out]; exact HO2.out, HAP.out, HBL.out⟩
        case measure => simp [intOf]; omega
    · have e : i = N := by omega
      subst e
      rcases HCA.out with ⟨rfl, hNn, hNh, hNs, hNl⟩ | ⟨hNn, L', hL', hNl, rfl⟩ | ⟨hNn, hNl, rfl⟩
      · have hL0 : 0 < L := by rw [← HLE.out]; exact hNl
        have hin : (i : Int) < (k : Int) + (m : Int) := by rw [HNI.out]; omega
        have hin2 : (i : Int) < (n : Int) := by omega
        have c1 : wr.cell? ⟨b2, o2 + i, none⟩ = some (.bool (h i)) := (HBL.out.cell (p := ⟨b2, o2 + i, none⟩) hb2).trans (HC2.out i (by omega))
        rw [hNh] at c1
        have c2 : wr.cell? ⟨b, o1 + i, none⟩ = some (.string (S i)) := (HBL.out.cell (p := ⟨b, o1 + i, none⟩) hb).trans (HC.out i (by omega))
        obtain ⟨g2, ha2, _, _, hcl⟩ := own_tS HO2.out HLE.out hL0
        subst ha2
        have c3 : wr.cell? ⟨g2, 0, none⟩ = some (.string (S (gt (hsL h i) 0))) := hcl 0 hL0
        have hmem := hsL_mem h i _ (gt_mem (hsL h i) 0 (by rw [HLE.out]; exact hL0))
        have hs2 := HS.out (gt (hsL h i) 0) (by omega) hmem.2
        have hne2 : (((S i).size : Int) != ((S (gt (hsL h i) 0)).size : Int)) = true := by rw [bne_iff_ne, hs2]; omega
        have hd : (0 : Int) < (L : Int) := by omega
        have hi0' : (0 : Int) ≤ (i : Int) := by omega
        clear hcl hmem hs2
        go_wp2
        go_quiet (fail)
        go_wp2_with fail
        refine (at_any 4 i _).mono ?_
        rintro e w2 ⟨rfl, rfl⟩
        go_wp2
        go_ret2
        exact ⟨_, _, rfl, refBad w1 (wr.drewN nq) 4 i (below_drewN HBL.out nq)⟩
      · have hout : (k : Int) + (m : Int) ≤ (i : Int) := by rw [HNI.out]; omega
        have hLL : L' = L := by rw [← hL', ← hNn]; exact HLE.out
        clear hL'
        subst hLL
        have hLk : (L' : Int) < (k : Int) := by omega
        go_wp2_with fail
        refine (at_any 14 L' _).mono ?_
        rintro e w2 ⟨rfl, rfl⟩
        go_wp2
        go_ret2
        exact ⟨_, _, rfl, refBad w1 wr 14 L' HBL.out⟩
      · have hout : (k : Int) + (m : Int) ≤ (i : Int) := by rw [HNI.out]; omega
        have hkL : k ≤ L := by
          have h1 := hNl
          rw [knL_take, List.length_take, ← hNn, HLE.out] at h1
          omega
        have hLk : (k : Int) ≤ (L : Int) := by omega
        obtain ⟨g1, ha1, hg1, hcp1, hcl1⟩ := own_vI HO1.out HLE.out (by omega)
        obtain ⟨g2, ha2, hg2, hcp2, hcl2⟩ := own_tS HO2.out HLE.out (by omega)
        subst ha1
        subst ha2
        have hgt : ∀ j, j < k → gt (hsL h i) j = gt (knL h k n) j := fun j hj => by rw [knL_take, gt_take _ _ _ hj, hNn]
        have CP : Hid (Cl wr g1 k (pI (gt (knL h k n)))) := fun j hj => by rw [hcl1 j (by omega), hgt j hj]; rfl
        have CB : Hid (∀ j, j < k → wr.cell? ⟨g2, 0 + j, none⟩ = some (.string (S (gt (knL h k n) j)))) := fun j hj => by rw [Nat.zero_add, hcl2 j (by omega), hgt j hj]
        have hkc1 : (k : Int) ≤ (cp1 : Int) := by omega
        have hkc2 : (k : Int) ≤ (cp2 : Int) := by omega
        have HKM : Hid (∀ j, j < k → gt (knL h k n) j < n ∧ h (gt (knL h k n) j) = true) := fun j hj => knL_mem h k n _ (gt_mem (knL h k n) j (by rw [hNl]; exact hj))
        obtain ⟨p, hp⟩ : ∃ p, gt (knL h k n) = p := ⟨_, rfl⟩
        rw [hp] at CP CB HKM
        have HP : Hid _ := hp
        have HVA : Hid (∀ W x, x < n → Below wr.heap.size wr W → Calls Tryd.prog 24 #[.slice (some ⟨g1, 0, none⟩) k cp1, .slice (some ⟨g2, 0, none⟩) k cp2, .int .i64 ((x : Nat) : Int)] W fun e w' => e = .returned (.string (resT S p k c x)) ∧ Below W.heap.size W w') := fun W x hx hW =>
          value_any p (fun j => S (p j)) k x g1 cp1 g2 0 cp2 c W (by omega) (by omega) (by omega) (fun j hj => by have := (HKM.out j hj).1; omega) hc (fun j hj => HS.out (p j) (by have := (HKM.out j hj).1; omega) (HKM.out j hj).2) (Nat.lt_of_lt_of_le hg1 hW.size) (Cl.below CP.out hW hg1) (Nat.lt_of_lt_of_le hg2 hW.size) (fun j hj => (hW.cell (p := ⟨g2, 0 + j, none⟩) hg2).trans (CB.out j hj))
        clear hp hcl1 hcl2 hgt CP CB HKM HO1 HO2 HAP hNl
        have hnm : ∀ x : Nat, x < n → (x : Int) < (k : Int) + (m : Int) := fun x hx => by rw [HNI.out]; omega
        have HNM : Hid _ := hnm
        clear hnm
        obtain ⟨w3, hw3⟩ : ∃ w3, w3 = wr := ⟨_, rfl⟩
        rw [← hw3] at HVA HBL ⊢
        clear hw3
        go_wp2
        go_loopw [15, 14] (fun jv v wq => ∃ j : Nat, j ≤ n ∧ jv = .int .i64 j ∧ wq.ownsRow w3.heap.size 9 1 v j (tV (resT S p k c) j) ∧ Below w3.heap.size w3 wq) (fun jv _ _ => n - (intOf jv).toNat)
        case atStart => exact ⟨0, by omega, rfl, World.ownsRow_nil _ _ _ _, Below.refl _ _⟩
        case round =>
          obtain ⟨j, hj, rfl, hown, hbl⟩ := hrel
          obtain ⟨ua, uc, hu⟩ := own_shape hown
          subst hu
          have HO : Hid (wr.ownsRow w3.heap.size 9 1 (.slice ua j uc) j (tV (resT S p k c) j)) := hown
          have HB : Hid (Below w3.heap.size w3 wr) := hbl
          clear hown hbl
          by_cases hlj : j < n
          · have hjkm := HNM.out j hlj
            go_wp2_with fail
            refine Calls.mono (HVA.out wr j hlj HB.out) ?_
            rintro e w4 ⟨rfl, hb4⟩
            have HTX : Hid (resT S p k c j = resT S p k c j) := rfl
            have HO4 : Hid (w4.ownsRow w3.heap.size 9 1 (.slice ua j uc) j (tV (resT S p k c) j)) := own_below HO.out hb4
            have HB4 : Hid (Below w3.heap.size w3 w4) := HB.out.trans (hb4.mono HB.out.size)
            obtain ⟨t, ht⟩ : ∃ t, resT S p k c j = t := ⟨_, rfl⟩
            have HT : Hid _ := ht
            rw [ht]
            clear ht HTX HO HB hb4
            have hB' : w3.heap.size ≤ (w4.alloc (Obj.cells #[Value.string t] 9)).heap.size := by have := HB4.out.size; simp; omega
            go_wp2_with (at_builtin; refine wpList_append_own_at _ rfl (.tmp 106) (.tmp 108) 31 rfl w3.heap.size 9 i01 (.string ⟨#[]⟩) 1 16 Tryd.underlying31 hi9 hy0 hy1 hy2 rfl (by decide) _ j (tV (resT S p k c) j) rfl (HO4.out.alloc _) ⟨w4.heap.size, 0, none⟩ 1 1 [.string t] rfl rfl (cell_one_new _ _ _) (str_one _) ?kb ?kc hB' ?_)
            case kb => unfold maxLen; omega
            case kc => omega
            intro v' w' hown' hgrow _ hblk
            have hbl' : Below w3.heap.size w3 w' := (HB4.out.alloc HB4.out.size _).grown hgrow hB' (fun g hg => (own_lt HO4.out g hg).1)
            have ho' : w'.ownsRow w3.heap.size 9 1 v' (j + 1) (tV (resT S p k c) (j + 1)) := by rw [tV_snoc, HT.out]; exact hown'
            clear hown' hgrow hblk HO4 HB4 hB'
            go_wp2
            go_roundw
            case rel => exact ⟨j + 1, by omega, by go_num, ho', hbl'⟩
            case measure => simp [intOf]; omega
          · have e : j = n := by omega
            have hjo : (k : Int) + (m : Int) ≤ (j : Int) := by rw [HNI.out]; omega
            go_wp2
            go_ret2
            exact ⟨_, _, rfl, rfl, by rw [HP.out, ← e]; exact own_base HO.out HBL.out.size, HBL.out.trans (HB.out.mono HBL.out.size)⟩
end Go.Proofs.YtbjgchlckmecaaaDoor
