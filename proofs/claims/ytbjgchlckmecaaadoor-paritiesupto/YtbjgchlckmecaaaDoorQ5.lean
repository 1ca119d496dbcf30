/-
  The document's answer to Parity.
-/
import Derived.Test.YtbjgchlckmecaaaDoorQ4
import Derived.Test.YtbjgchlckmecaaaDoorQ3
namespace Go.Proofs.YtbjgchlckmecaaaDoor
open Go.RowKit
set_option maxRecDepth 100000
set_option maxHeartbeats 4000000
theorem own_base {w : World} {base b' : Nat} {e : TypeId} {size : Nat} {v : Value} {n : Nat} {xs : List Value} (h : w.ownsRow base e size v n xs) (hb : b' ≤ base) : w.ownsRow b' e size v n xs := by
  refine ⟨h.1, ?_⟩
  rcases h.2 with h2 | ⟨g, cap, cur, hv, hg, rest⟩
  · exact .inl h2
  · exact .inr ⟨g, cap, cur, hv, Nat.le_trans hb hg, rest⟩
/-- the texts of a list, as values -/
def tV (T : Nat → ByteArray) (n : Nat) : List Value := (List.range n).map fun i => .string (T i)
theorem tV_snoc (T : Nat → ByteArray) (n : Nat) : tV T (n + 1) = tV T n ++ [.string (T n)] := by simp [tV, List.range_succ]
theorem vI_range (n : Nat) : vI (List.range (n + 1)) = vI (List.range n) ++ [.int .i64 ((n : Nat) : Int)] := by simp [vI, List.range_succ]
/-- the document's Parity answers o -/
def PRef (o : Out) (K M : Int) (v : Value) (w : World) : Prop := Calls Tryd.prog 11 #[.int .i64 K, .int .i64 M, v] w fun e w' => ∃ x y, e = .returned (.tuple #[x, y]) ∧ RefOut w o x y w'
theorem pref_params (K M i : Int) (v : Value) (w : World) (h : NoPar K M i) : PRef (.bad 1 i) K M v w := by
  have H : Hid _ := pt_bad K M i w h
  clear h
  unfold PRef
  go_enter Tryd.func11, Tryd.ntmps11
  go_wp2_with fail
  refine Calls.mono H.out ?_
  rintro e w1 ⟨rfl, rfl⟩
  go_wp2
  go_ret2
  exact ⟨_, _, rfl, refBad w w 1 i (Below.refl _ _)⟩
theorem pref_range (k m n cap : Nat) (a : Option Addr) (w : World) (hk1 : 1 ≤ k) (hkm : k + m ≤ 255) (hn : n ≠ k) : PRef (.bad 15 n) k m (.slice a n cap) w := by
  have hne : ((n : Int) != (k : Int)) = true := by rw [bne_iff_ne]; omega
  unfold PRef
  go_enter Tryd.func11, Tryd.ntmps11
  go_wp2_with fail
  refine (pt_ok k m w hk1 hkm).mono ?_
  rintro e w1 ⟨rfl, rfl⟩
  go_wp2_with fail
  refine (at_any 15 n w1).mono ?_
  rintro e w2 ⟨rfl, rfl⟩
  go_wp2
  go_ret2
  exact ⟨_, _, rfl, refBad w1 w1 15 n (Below.refl _ _)⟩
theorem pref_big (S : Nat → ByteArray) (k m b o cap i0 : Nat) (w : World) (hk1 : 1 ≤ k) (hkm : k + m ≤ 255) (hi0 : i0 < k) (h1 : (S i0).size ≠ (S 0).size) (h2 : ∀ j, j < i0 → (S j).size = (S 0).size) (hb : b < w.heap.size) (hC : ∀ i, i < k → w.cell? ⟨b, o + i, none⟩ = some (.string (S i))) : PRef (.bad 4 i0) k m (.slice (some ⟨b, o, none⟩) k cap) w := by
  have HC : Hid _ := hC
  have H1 : Hid _ := h1
  have H2 : Hid _ := h2
  clear hC h1 h2
  obtain ⟨i00, hi3, hz0, hz1, hz2⟩ := info_parts info3
  unfold PRef
  go_enter Tryd.func11, Tryd.ntmps11
  go_wp2_with fail
  refine (pt_ok k m w hk1 hkm).mono ?_
  rintro e w1 ⟨rfl, rfl⟩
  go_wp2
  go_loopw [10, 9] (fun iv v wr => ∃ i : Nat, i ≤ i0 ∧ iv = .int .i64 i ∧ wr.ownsRow w1.heap.size 3 1 v i (vI (List.range i)) ∧ Below w1.heap.size w1 wr) (fun iv _ _ => k - (intOf iv).toNat)
  case atStart => exact ⟨0, by omega, rfl, World.ownsRow_nil _ _ _ _, Below.refl _ _⟩
  case round =>
    obtain ⟨i, hi, rfl, hown, hbl⟩ := hrel
    obtain ⟨va, vc, hv⟩ := own_shape hown
    subst hv
    have hlt : i < k := by omega
    have c1 : wr.cell? ⟨b, o + i, none⟩ = some (.string (S i)) := (hbl.cell (p := ⟨b, o + i, none⟩) hb).trans (HC.out i hlt)
    have c2 : wr.cell? ⟨b, o, none⟩ = some (.string (S 0)) := (hbl.cell (p := ⟨b, o, none⟩) hb).trans (HC.out 0 (by omega))
    have hk0 : (0 : Int) < (k : Int) := by omega
    have hik : (i : Int) < (k : Int) := by omega
    have HOW : Hid _ := hown
    have HBL : Hid _ := hbl
    clear hown hbl
    by_cases he : i < i0
    · have hne : (((S i).size : Int) != ((S 0).size : Int)) = false := by rw [bne_eq_false_iff_eq, H2.out i he]
      go_wp2
      go_quiet (fail)
      have HO2 : Hid ((wr.drewN nq).ownsRow w1.heap.size 3 1 (.slice va i vc) i (vI (List.range i))) := own_below HOW.out (below_drewN (Below.refl _ _) nq)
      have HB2 : Hid (Below w1.heap.size w1 (wr.drewN nq)) := below_drewN HBL.out nq
      obtain ⟨w2, hw2⟩ : ∃ w2, w2 = wr.drewN nq := ⟨_, rfl⟩
      rw [← hw2] at HO2 HB2 ⊢
      clear hw2 HOW HBL c1 c2
      have hB' : w1.heap.size ≤ (w2.alloc (Obj.cells #[Value.int IntKind.i64 ((i : Nat) : Int)] 3)).heap.size := by have := HB2.out.size; simp; omega
      go_wp2_with (at_builtin; refine wpList_append_own_at _ rfl (.tmp 45) (.tmp 47) 56 rfl w1.heap.size 3 i00 (.int .i64 0) 1 8 Tryd.underlying56 hi3 hz0 hz1 hz2 rfl (by decide) _ i (vI (List.range i)) rfl (HO2.out.alloc _) ⟨w2.heap.size, 0, none⟩ 1 1 [.int .i64 ((i : Nat) : Int)] rfl rfl (cell_one_new _ _ _) (one_cell _) ?kb ?kc hB' ?_)
      case kb => unfold maxLen; omega
      case kc => omega
      intro v' w' hown' hgrow _ hblk
      have hbl' : Below w1.heap.size w1 w' := (HB2.out.alloc HB2.out.size _).grown hgrow hB' (fun g hg => (own_lt HO2.out g hg).1)
      have ho' : w'.ownsRow w1.heap.size 3 1 v' (i + 1) (vI (List.range (i + 1))) := by rw [vI_range]; exact hown'
      clear hown' hgrow hblk HO2 HB2 hB'
      go_wp2
      go_roundw
      case rel => exact ⟨i + 1, by omega, by go_num, ho', hbl'⟩
      case measure => simp [intOf]; omega
    · have e : i = i0 := by omega
      subst e
      have hne : (((S i).size : Int) != ((S 0).size : Int)) = true := by rw [bne_iff_ne]; exact fun h => H1.out (Int.ofNat.inj h)
      go_wp2
      go_quiet (fail)
      go_wp2_with fail
      refine (at_any 4 i _).mono ?_
      rintro e w2 ⟨rfl, rfl⟩
      go_wp2
      go_ret2
      exact ⟨_, _, rfl, refBad w1 (wr.drewN nq) 4 i (below_drewN HBL.out nq)⟩
theorem own_pI {w : World} {B k : Nat} {v : Value} (h : w.ownsRow B 3 1 v k (vI (List.range k))) (h0 : 0 < k) : ∃ g cap, v = .slice (some ⟨g, 0, none⟩) k cap ∧ g < w.heap.size ∧ Cl w g k (pI fun i => i) := by
  rcases h.2 with ⟨_, h1⟩ | ⟨g, cap, cur, hv, hg, hh, rest⟩
  · omega
  · refine ⟨g, cap, hv, (Array.getElem?_eq_some_iff.1 hh).1, fun i hi => ?_⟩
    subst hv
    rw [h.cellAt i (by omega)]
    simp [vI, hi, pI]
theorem pref_good (S : Nat → ByteArray) (k m c b o cap : Nat) (w : World) (hk1 : 1 ≤ k) (hkm : k + m ≤ 255) (hc : c ≤ 1000000000000) (hS : ∀ i, i < k → (S i).size = c) (hb : b < w.heap.size) (hC : ∀ i, i < k → w.cell? ⟨b, o + i, none⟩ = some (.string (S i))) : PRef (.good m (vl (fun i => i) (fun i => k + i) k c S)) k m (.slice (some ⟨b, o, none⟩) k cap) w := by
  have HC : Hid _ := hC
  have HS : Hid _ := hS
  clear hC hS
  obtain ⟨i00, hi3, hz0, hz1, hz2⟩ := info_parts info3
  obtain ⟨i01, hi9, hy0, hy1, hy2⟩ := info_parts info9
  unfold PRef
  go_enter Tryd.func11, Tryd.ntmps11
  go_wp2_with fail
  refine (pt_ok k m w hk1 hkm).mono ?_
  rintro e w1 ⟨rfl, rfl⟩
  go_wp2
  go_loopw [10, 9] (fun iv v wr => ∃ i : Nat, i ≤ k ∧ iv = .int .i64 i ∧ wr.ownsRow w1.heap.size 3 1 v i (vI (List.range i)) ∧ Below w1.heap.size w1 wr) (fun iv _ _ => k - (intOf iv).toNat)
  case atStart => exact ⟨0, by omega, rfl, World.ownsRow_nil _ _ _ _, Below.refl _ _⟩
  case round =>
    obtain ⟨i, hi, rfl, hown, hbl⟩ := hrel
    obtain ⟨va, vc, hv⟩ := own_shape hown
    subst hv
    have HOW : Hid (wr.ownsRow w1.heap.size 3 1 (.slice va i vc) i (vI (List.range i))) := hown
    have HBL : Hid (Below w1.heap.size w1 wr) := hbl
    clear hown hbl
    by_cases hlt : i < k
    · have c1 : wr.cell? ⟨b, o + i, none⟩ = some (.string (S i)) := (HBL.out.cell (p := ⟨b, o + i, none⟩) hb).trans (HC.out i hlt)
      have c2 : wr.cell? ⟨b, o, none⟩ = some (.string (S 0)) := (HBL.out.cell (p := ⟨b, o, none⟩) hb).trans (HC.out 0 (by omega))
      have hk0 : (0 : Int) < (k : Int) := by omega
      have hik : (i : Int) < (k : Int) := by omega
      have hne : (((S i).size : Int) != ((S 0).size : Int)) = false := by rw [bne_eq_false_iff_eq, HS.out i hlt, HS.out 0 (by omega)]
      go_wp2
      go_quiet (fail)
      have HO2 : Hid ((wr.drewN nq).ownsRow w1.heap.size 3 1 (.slice va i vc) i (vI (List.range i))) := own_below HOW.out (below_drewN (Below.refl _ _) nq)
      have HB2 : Hid (Below w1.heap.size w1 (wr.drewN nq)) := below_drewN HBL.out nq
      obtain ⟨w2, hw2⟩ : ∃ w2, w2 = wr.drewN nq := ⟨_, rfl⟩
      rw [← hw2] at HO2 HB2 ⊢
      clear hw2 HOW HBL c1 c2
      have hB' : w1.heap.size ≤ (w2.alloc (Obj.cells #[Value.int IntKind.i64 ((i : Nat) : Int)] 3)).heap.size := by have := HB2.out.size; simp; omega
      go_wp2_with (at_builtin; refine wpList_append_own_at _ rfl (.tmp 45) (.tmp 47) 56 rfl w1.heap.size 3 i00 (.int .i64 0) 1 8 Tryd.underlying56 hi3 hz0 hz1 hz2 rfl (by decide) _ i (vI (List.range i)) rfl (HO2.out.alloc _) ⟨w2.heap.size, 0, none⟩ 1 1 [.int .i64 ((i : Nat) : Int)] rfl rfl (cell_one_new _ _ _) (one_cell _) ?kb ?kc hB' ?_)
      case kb => unfold maxLen; omega
      case kc => omega
      intro v' w' hown' hgrow _ hblk
      have hbl' : Below w1.heap.size w1 w' := (HB2.out.alloc HB2.out.size _).grown hgrow hB' (fun g hg => (own_lt HO2.out g hg).1)
      have ho' : w'.ownsRow w1.heap.size 3 1 v' (i + 1) (vI (List.range (i + 1))) := by rw [vI_range]; exact hown'
      clear hown' hgrow hblk HO2 HB2 hB'
      go_wp2
      go_roundw
      case rel => exact ⟨i + 1, by omega, by go_num, ho', hbl'⟩
      case measure => simp [intOf]; omega
    · have e : i = k := by omega
      subst e
      obtain ⟨g, gc, hv, hg, hp⟩ := own_pI HOW.out (by omega)
      simp only [Value.slice.injEq] at hv
      obtain ⟨rfl, _, rfl⟩ := hv
      have HP : Hid (Cl wr g i (pI fun i => i)) := hp
      clear hp HOW
      have HBL2 : Hid (b < wr.heap.size) := Nat.lt_of_lt_of_le hb HBL.out.size
      have HC2 : Hid (∀ j, j < i → wr.cell? ⟨b, o + j, none⟩ = some (.string (S j))) := fun j hj => (HBL.out.cell (p := ⟨b, o + j, none⟩) hb).trans (HC.out j hj)
      obtain ⟨w3, hw3⟩ : ∃ w3, w3 = wr := ⟨_, rfl⟩
      rw [← hw3] at HP HBL2 HC2 HBL hg ⊢
      clear hw3
      go_wp2
      go_loopw [12, 11] (fun jv v wq => ∃ j : Nat, j ≤ m ∧ jv = .int .i64 j ∧ wq.ownsRow w3.heap.size 9 1 v j (tV (vl (fun i => i) (fun l => i + l) i c S) j) ∧ Below w3.heap.size w3 wq) (fun jv _ _ => m - (intOf jv).toNat)
      case atStart => exact ⟨0, by omega, rfl, World.ownsRow_nil _ _ _ _, Below.refl _ _⟩
      case round =>
        obtain ⟨j, hj, rfl, hown, hbl⟩ := hrel
        obtain ⟨ua, uc, hu⟩ := own_shape hown
        subst hu
        have HO : Hid (wr.ownsRow w3.heap.size 9 1 (.slice ua j uc) j (tV (vl (fun i => i) (fun l => i + l) i c S) j)) := hown
        have HB : Hid (Below w3.heap.size w3 wr) := hbl
        clear hown hbl
        by_cases hlj : j < m
        · have HVAL : Hid _ := value_any (fun l => l) S i (i + j) g vc b o cap c wr (by omega) (by omega) (by omega) (fun l hl => by omega) hc HS.out (Nat.lt_of_lt_of_le hg HB.out.size) (Cl.below HP.out HB.out hg) (Nat.lt_of_lt_of_le HBL2.out HB.out.size) (fun l hl => (HB.out.cell (p := ⟨b, o + l, none⟩) HBL2.out).trans (HC2.out l hl))
          have hij : ((i : Int) + (j : Int)) = ((i + j : Nat) : Int) := by omega
          have HIJ : Hid _ := hij
          clear hij
          go_wp2_with fail
          rw [HIJ.out]
          refine Calls.mono HVAL.out ?_
          rintro e w4 ⟨rfl, hb4⟩
          have HTX : Hid (vl (fun i => i) (fun l => i + l) i c S j = (txtN c fun l => sm (wt (fun l => l) i (i + j)) (fun i l => bN (S i) l) l i)) := rfl
          obtain ⟨t, ht⟩ : ∃ t, (txtN c fun l => sm (wt (fun l => l) i (i + j)) (fun i l => bN (S i) l) l i) = t := ⟨_, rfl⟩
          rw [ht] at HTX ⊢
          clear ht HVAL
          have HO4 : Hid (w4.ownsRow w3.heap.size 9 1 (.slice ua j uc) j (tV (vl (fun i => i) (fun l => i + l) i c S) j)) := own_below HO.out hb4
          have HB4 : Hid (Below w3.heap.size w3 w4) := HB.out.trans (hb4.mono HB.out.size)
          clear HO HB hb4
          have hB' : w3.heap.size ≤ (w4.alloc (Obj.cells #[Value.string t] 9)).heap.size := by have := HB4.out.size; simp; omega
          go_wp2_with (at_builtin; refine wpList_append_own_at _ rfl (.tmp 60) (.tmp 62) 31 rfl w3.heap.size 9 i01 (.string ⟨#[]⟩) 1 16 Tryd.underlying31 hi9 hy0 hy1 hy2 rfl (by decide) _ j (tV (vl (fun i => i) (fun l => i + l) i c S) j) rfl (HO4.out.alloc _) ⟨w4.heap.size, 0, none⟩ 1 1 [.string t] rfl rfl (cell_one_new _ _ _) (str_one _) ?kb ?kc hB' ?_)
          case kb => unfold maxLen; omega
          case kc => omega
          intro v' w' hown' hgrow _ hblk
          have hbl' : Below w3.heap.size w3 w' := (HB4.out.alloc HB4.out.size _).grown hgrow hB' (fun g hg => (own_lt HO4.out g hg).1)
          have ho' : w'.ownsRow w3.heap.size 9 1 v' (j + 1) (tV (vl (fun i => i) (fun l => i + l) i c S) (j + 1)) := by rw [tV_snoc, HTX.out]; exact hown'
          clear hown' hgrow hblk HO4 HB4 hB'
          go_wp2
          go_roundw
          case rel => exact ⟨j + 1, by omega, by go_num, ho', hbl'⟩
          case measure => simp [intOf]; omega
        · have e : j = m := by omega
          subst e
          go_wp2
          go_ret2
          exact ⟨_, _, rfl, rfl, own_base HO.out HBL.out.size, HBL.out.trans (HB.out.mono HBL.out.size)⟩
end Go.Proofs.YtbjgchlckmecaaaDoor
