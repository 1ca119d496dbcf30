/-
  The walk of vaultref's value.
  The document's answer to Parity.
-/
import Derived.Test.YtadinjaocnlglaaGreatDoorZ40
import Derived.Test.YtadinjaocnlglaaGreatDoorZ07
import Derived.Test.YtadinjaocnlglaaGreatDoorZ12
import Derived.Test.YtadinjaocnlglaaGreatDoorZ14
namespace Go.Proofs.YtadinjaocnlglaaGreatDoor
open Go.RowKit
set_option maxRecDepth 100000
/-- bytes that are told by a function, as values -/
def byV (f : Nat → Nat) (c : Nat) : List Value := (List.range c).map fun l => .int .u8 ((f l : Nat) : Int)
theorem byV_len (f : Nat → Nat) (c : Nat) : (byV f c).length = c := by simp [byV]
theorem byV_snoc (f : Nat → Nat) (c : Nat) : byV f (c + 1) = byV f c ++ [.int .u8 ((f c : Nat) : Int)] := by simp [byV, List.range_succ]
set_option maxHeartbeats 4000000 in
theorem value_any (p : Nat → Nat) (S : Nat → ByteArray) (n x b cap b2 o2 cap2 c : Nat) (w : World) (hn0 : 0 < n) (hn : n ≤ 1000) (hx : x < 256) (hp : ∀ i, i < n → p i < 256) (hc : c ≤ 1000000000000) (hS : ∀ i, i < n → (S i).size = c)
    (hb : b < w.heap.size) (hC : Cl w b n (pI p)) (hb2 : b2 < w.heap.size) (hC2 : ∀ i, i < n → w.cell? ⟨b2, o2 + i, none⟩ = some (.string (S i))) :
    Calls Tryz.prog 236 #[.slice (some ⟨b, 0, none⟩) n cap, .slice (some ⟨b2, o2, none⟩) n cap2, .int .i64 x] w fun e w' => e = .returned (.string (txtN c fun l => sm (wt p n x) (fun i l => bN (S i) l) l n)) ∧ Below w.heap.size w w' := by
  have H : Hid _ := shares_any p b n cap x w hn hx hp hb hC
  have HS : Hid _ := hS
  have HC2 : Hid _ := hC2
  clear hS hC2 hC hp
  obtain ⟨f, hf⟩ : ∃ f : Nat → Nat, (fun l => sm (wt p n x) (fun i l => bN (S i) l) l n) = f := ⟨_, rfl⟩
  have hfl : ∀ l, f l < 256 := fun l => by rw [← hf]; exact sm_wt_lt p _ n x l n
  rw [hf]
  have HF : Hid (∀ l, f l = sm (wt p n x) (fun i l => bN (S i) l) l n) := fun l => by rw [← hf]
  have HFL : Hid _ := hfl
  clear hf hfl
  obtain ⟨i0, hi, hz0, hz1, hz2⟩ := info_parts info5
  go_enter Tryz.func236, Tryz.ntmps236
  go_wp2_with fail
  refine Calls.mono H.out ?_
  rintro e w1 ⟨rfl, hR1, hB1⟩
  have HR1 : Hid (Rw w1 w.heap.size n 3 (pI (wt p n x))) := hR1
  have HB1 : Hid _ := hB1
  have hwl : w.heap.size < w1.heap.size := hR1.lt
  clear hR1 hB1 H
  obtain ⟨gw, hgw⟩ : ∃ gw, gw = w.heap.size := ⟨_, rfl⟩
  rw [← hgw] at HR1 hwl ⊢
  have hb2w : b2 < gw := by omega
  have HGW : Hid _ := hgw
  clear hgw
  have HC1 : Hid (∀ i, i < n → w1.cell? ⟨b2, o2 + i, none⟩ = some (.string (S i))) := fun i hin => (HB1.out.cell (p := ⟨b2, o2 + i, none⟩) hb2).trans (HC2.out i hin)
  go_wp2
  go_loopw [9, 8] (fun iv v wr => ∃ l : Nat, l ≤ c ∧ iv = .int .i64 l ∧ wr.ownsRow w1.heap.size 5 1 v l (byV f l) ∧ Below w1.heap.size w1 wr) (fun iv _ _ => c - (intOf iv).toNat)
  case atStart => exact ⟨0, by omega, rfl, World.ownsRow_nil _ _ _ _, Below.refl _ _⟩
  case round =>
    obtain ⟨l, hl, rfl, hown, hbl⟩ := hrel
    obtain ⟨va, vc, hv⟩ := own_shape hown
    subst hv
    have HOW : Hid (wr.ownsRow w1.heap.size 5 1 (.slice va l vc) l (byV f l)) := hown
    have HBL : Hid (Below w1.heap.size w1 wr) := hbl
    have c0 : wr.cell? ⟨b2, o2, none⟩ = some (.string (S 0)) := (hbl.cell (p := ⟨b2, o2, none⟩) (by simp; omega)).trans (HC1.out 0 hn0)
    have hs0 := HS.out 0 hn0
    clear hown hbl
    by_cases hlt : l < c
    · have h1 : (l : Int) < ((S 0).size : Int) := by omega
      go_wp2
      go_loopw [11, 10] (fun iv sv wq => ∃ k q : Nat, k ≤ n ∧ iv = .int .i64 k ∧ sv = .int .i64 ((sm (wt p n x) (fun i l => bN (S i) l) l k : Nat) : Int) ∧ wq = wr.drewN q) (fun iv _ _ => n - (intOf iv).toNat)
      case atStart => exact ⟨0, 0, by omega, rfl, rfl, rfl⟩
      case round =>
        obtain ⟨k, q, hk, rfl, rfl, hq⟩ := hrel
        have hsl := sm_wt_lt p (fun i l => bN (S i) l) n x l k
        by_cases hlk : k < n
        · have HN : Hid (sm (wt p n x) (fun i l => bN (S i) l) l (k + 1) = sm (wt p n x) (fun i l => bN (S i) l) l k ^^^ gm (wt p n x k) (bN (S k) l)) := rfl
          obtain ⟨s, hs⟩ : ∃ s, sm (wt p n x) (fun i l => bN (S i) l) l k = s := ⟨_, rfl⟩
          rw [hs] at HN hsl ⊢
          have hwk := wt_lt p n x k
          have hbk := bN_lt (S k) l
          have hgl : gm (wt p n x k) (bN (S k) l) < 256 := gm_lt _ _ hwk
          have HXO : Hid _ := i64_xor_nat s (gm (wt p n x k) (bN (S k) l)) (by omega) (by omega)
          have c3 : wr.cell? ⟨gw, k, none⟩ = some (.int .i64 ((wt p n x k : Nat) : Int)) := by rw [hq]; exact (HBL.out.cell (p := ⟨gw, k, none⟩) hwl).trans (HR1.out.cell k hlk)
          have c4 : wr.cell? ⟨b2, o2 + k, none⟩ = some (.string (S k)) := by rw [hq]; exact (HBL.out.cell (p := ⟨b2, o2 + k, none⟩) (by simp; omega)).trans (HC1.out k hlk)
          have hix := index_bN (S k) l (by rw [HS.out k hlk]; exact hlt)
          have HQ : Hid _ := hq
          clear hq hs
          go_wp2
          go_quiet (first | (go_at_call 278; exact Calls.quiet_of_same (mul_any _ _ _ hwk hbk)))
          go_wp2
          go_roundw
          case rel => exact ⟨k + 1, _, by omega, by go_num, by rw [HN.out, HXO.out], by rw [HQ.out, World.drewN_drewN]⟩
          case measure => simp [intOf]; omega
        · have e : k = n := by omega
          have HO : Hid (wr.ownsRow w1.heap.size 5 1 (.slice va l vc) l (byV f l)) := by show wr.ownsRow _ _ _ _ _ _; rw [hq]; exact own_below HOW.out (below_drewN (Below.refl _ _) q)
          have HB : Hid (Below w1.heap.size w1 wr) := by show Below _ _ _; rw [hq]; exact below_drewN HBL.out q
          rw [e, ← HF.out l] at hsl ⊢
          clear hq
          have hmod : ((f l : Nat) : Int) % 256 = ((f l : Nat) : Int) := by omega
          have hB' : w1.heap.size ≤ (wr.alloc (Obj.cells #[Value.int IntKind.u8 ((f l : Nat) : Int)] 5)).heap.size := by have := HB.out.size; simp; omega
          go_wp2_with (at_builtin; refine wpList_append_own_at _ rfl (.tmp 43) (.tmp 46) 165 rfl w1.heap.size 5 i0 (.int .u8 0) 1 1 Tryz.underlying165 hi hz0 hz1 hz2 rfl (by decide) _ l (byV f l) rfl (HO.out.alloc _) ⟨wr.heap.size, 0, none⟩ 1 1 [.int .u8 ((f l : Nat) : Int)] rfl rfl (cell_one_new _ _ _) (by intro u hu; simp at hu; subst hu; rfl) ?kb ?kc hB' ?_)
          case kb => unfold maxLen; omega
          case kc => omega
          intro v' w' hown' hgrow _ hblk
          have hbl' : Below w1.heap.size w1 w' := (HB.out.alloc HB.out.size _).grown hgrow hB' (fun g hg => own_ge HO.out g hg)
          have ho' : w'.ownsRow w1.heap.size 5 1 v' (l + 1) (byV f (l + 1)) := by rw [byV_snoc]; exact hown'
          clear hown' hgrow hblk HO HB HOW HBL hB'
          go_wp2
          go_roundw
          case rel => exact ⟨l + 1, by omega, by go_num, ho', hbl'⟩
          case measure => simp [intOf]; omega
    · have e : l = c := by omega
      subst e
      have h1 : ((S 0).size : Int) ≤ (l : Int) := by omega
      rcases HOW.out.2 with ⟨hv, h0⟩ | ⟨g, cap', cur, hv, hg, hh, rest⟩
      · simp only [Value.slice.injEq] at hv
        obtain ⟨rfl, rfl, rfl⟩ := hv
        have hcv : ∀ W : World, (convert 165 9 (.slice none 0 0)).run Tryz.prog W = .ok (.string ⟨#[]⟩) W := fun W => by kernel_rfl
        go_wp2
        go_ret
        exact ⟨by congr 2, HB1.out.trans (HBL.out.mono HB1.out.size)⟩
      · simp only [Value.slice.injEq] at hv
        obtain ⟨rfl, _, rfl⟩ := hv
        have hcv := run_convert_bytes_arg (P := Tryz.prog) wr 165 5 Tryz.underlying165 Tryz.underlying5 g 0 l vc ((List.range l).map fun i => ((f i : Nat) : Int)) (by simp) (fun i hi => by
          rw [Nat.zero_add, HOW.out.cellAt i (by omega)]
          simp [byV, hi]) 9 Tryz.underlying9
        go_wp2
        go_ret
        exact ⟨rfl, HB1.out.trans (HBL.out.mono HB1.out.size)⟩
end Go.Proofs.YtadinjaocnlglaaGreatDoor
namespace Go.Proofs.YtadinjaocnlglaaGreatDoor
open Go.RowKit
set_option maxRecDepth 100000
set_option maxHeartbeats 4000000
theorem own_baseq {w : World} {base b' : Nat} {e : TypeId} {size : Nat} {v : Value} {n : Nat} {xs : List Value} (h : w.ownsRow base e size v n xs) (hb : b' ≤ base) : w.ownsRow b' e size v n xs := by
  refine ⟨h.1, ?_⟩
  rcases h.2 with h2 | ⟨g, cap, cur, hv, hg, rest⟩
  · exact .inl h2
  · exact .inr ⟨g, cap, cur, hv, Nat.le_trans hb hg, rest⟩
/-- the texts of a list, as values -/
theorem tV_snocq (T : Nat → ByteArray) (n : Nat) : tV T (n + 1) = tV T n ++ [.string (T n)] := by simp [tV, List.range_succ]
theorem vI_range (n : Nat) : vI (List.range (n + 1)) = vI (List.range n) ++ [.int .i64 ((n : Nat) : Int)] := by simp [vI, List.range_succ]
/-- the document's Parity answers o -/
def PRef (o : Out) (K M : Int) (v : Value) (w : World) : Prop := Calls Tryz.prog 195 #[.int .i64 K, .int .i64 M, v] w fun e w' => ∃ x y, e = .returned (.tuple #[x, y]) ∧ RefOut w o x y w'
theorem pref_params (K M i : Int) (v : Value) (w : World) (h : NoPar K M i) : PRef (.bad 1 i) K M v w := by
  have H : Hid _ := pt_bad K M i w h
  clear h
  unfold PRef
  go_enter Tryz.func195, Tryz.ntmps195
  go_wp2_with fail
  refine Calls.mono H.out ?_
  rintro e w1 ⟨rfl, rfl⟩
  go_wp2
  go_ret2
  exact ⟨_, _, rfl, refBad w w 1 i (Below.refl _ _)⟩
theorem pref_range (k m n cap : Nat) (a : Option Addr) (w : World) (hk1 : 1 ≤ k) (hkm : k + m ≤ 255) (hn : n ≠ k) : PRef (.bad 15 n) k m (.slice a n cap) w := by
  have hne : ((n : Int) != (k : Int)) = true := by rw [bne_iff_ne]; omega
  unfold PRef
  go_enter Tryz.func195, Tryz.ntmps195
  go_wp2_with fail
  refine (pt_ok k m w hk1 hkm).mono ?_
  rintro e w1 ⟨rfl, rfl⟩
  go_wp2_with fail
  refine (at_any 15 n w1).mono ?_
  rintro e w2 ⟨rfl, rfl⟩
  go_wp2
  go_ret2
  exact ⟨_, _, rfl, refBad w1 w1 15 n (Below.refl _ _)⟩
theorem pref_big (S : Nat → ByteArray) (k m b o cap i0 : Nat) (w : World) (hk1 : 1 ≤ k) (hkm : k + m ≤ 255) (hi0 : i0 < k) (h1 : (S i0).size ≠ (S 0).size) (h2 : ∀ j, j < i0 → (S j).size = (S 0).size) (hb : b < w.heap.size) (hC : ∀ i, i < k → w.cell? ⟨b, o + i, none⟩ = some (.string (S i))) : PRef (.bad 4 i0) k m (.slice (some ⟨b, o, none⟩) k cap) w := by
  have HC : Hid _ := hC
  have H1 : Hid _ := h1
  have H2 : Hid _ := h2
  clear hC h1 h2
  obtain ⟨i00, hi3, hz0, hz1, hz2⟩ := info_parts info3
  unfold PRef
  go_enter Tryz.func195, Tryz.ntmps195
  go_wp2_with fail
  refine (pt_ok k m w hk1 hkm).mono ?_
  rintro e w1 ⟨rfl, rfl⟩
  go_wp2
  go_loopw [10, 9] (fun iv v wr => ∃ i : Nat, i ≤ i0 ∧ iv = .int .i64 i ∧ wr.ownsRow w1.heap.size 3 1 v i (vI (List.range i)) ∧ Below w1.heap.size w1 wr) (fun iv _ _ => k - (intOf iv).toNat)
  case atStart => exact ⟨0, by omega, rfl, World.ownsRow_nil _ _ _ _, Below.refl _ _⟩
  case round =>
    obtain ⟨i, hi, rfl, hown, hbl⟩ := hrel
    obtain ⟨va, vc, hv⟩ := own_shapeq hown
    subst hv
    have hlt : i < k := by omega
    have c1 : wr.cell? ⟨b, o + i, none⟩ = some (.string (S i)) := (hbl.cell (p := ⟨b, o + i, none⟩) hb).trans (HC.out i hlt)
    have c2 : wr.cell? ⟨b, o, none⟩ = some (.string (S 0)) := (hbl.cell (p := ⟨b, o, none⟩) hb).trans (HC.out 0 (by omega))
    have hk0 : (0 : Int) < (k : Int) := by omega
    have hik : (i : Int) < (k : Int) := by omega
    have HOW : Hid _ := hown
    have HBL : Hid _ := hbl
    clear hown hbl
    by_cases he : i < i0
    · have hne : (((S i).size : Int) != ((S 0).size : Int)) = false := by rw [bne_eq_false_iff_eq, H2.out i he]
      go_wp2
      go_quiet (fail)
      have HO2 : Hid ((wr.drewN nq).ownsRow w1.heap.size 3 1 (.slice va i vc) i (vI (List.range i))) := own_below HOW.out (below_drewN (Below.refl _ _) nq)
      have HB2 : Hid (Below w1.heap.size w1 (wr.drewN nq)) := below_drewN HBL.out nq
      obtain ⟨w2, hw2⟩ : ∃ w2, w2 = wr.drewN nq := ⟨_, rfl⟩
      rw [← hw2] at HO2 HB2 ⊢
      clear hw2 HOW HBL c1 c2
      have hB' : w1.heap.size ≤ (w2.alloc (Obj.cells #[Value.int IntKind.i64 ((i : Nat) : Int)] 3)).heap.size := by have := HB2.out.size; simp; omega
      go_wp2_with (at_builtin; refine wpList_append_own_at _ rfl (.tmp 45) (.tmp 47) 39 rfl w1.heap.size 3 i00 (.int .i64 0) 1 8 Tryz.underlying39 hi3 hz0 hz1 hz2 rfl (by decide) _ i (vI (List.range i)) rfl (HO2.out.alloc _) ⟨w2.heap.size, 0, none⟩ 1 1 [.int .i64 ((i : Nat) : Int)] rfl rfl (cell_one_new _ _ _) (one_cell _) ?kb ?kc hB' ?_)
      case kb => unfold maxLen; omega
      case kc => omega
      intro v' w' hown' hgrow _ hblk
      have hbl' : Below w1.heap.size w1 w' := (HB2.out.alloc HB2.out.size _).grown hgrow hB' (fun g hg => (own_ltq HO2.out g hg).1)
      have ho' : w'.ownsRow w1.heap.size 3 1 v' (i + 1) (vI (List.range (i + 1))) := by rw [vI_range]; exact hown'
      clear hown' hgrow hblk HO2 HB2 hB'
      go_wp2
      go_roundw
      case rel => exact ⟨i + 1, by omega, by go_num, ho', hbl'⟩
      case measure => simp [intOf]; omega
    · have e : i = i0 := by omega
      subst e
      have hne : (((S i).size : Int) != ((S 0).size : Int)) = true := by rw [bne_iff_ne]; exact fun h => H1.out (Int.ofNat.inj h)
      go_wp2
      go_quiet (fail)
      go_wp2_with fail
      refine (at_any 4 i _).mono ?_
      rintro e w2 ⟨rfl, rfl⟩
      go_wp2
      go_ret2
      exact ⟨_, _, rfl, refBad w1 (wr.drewN nq) 4 i (below_drewN HBL.out nq)⟩
theorem own_pI {w : World} {B k : Nat} {v : Value} (h : w.ownsRow B 3 1 v k (vI (List.range k))) (h0 : 0 < k) : ∃ g cap, v = .slice (some ⟨g, 0, none⟩) k cap ∧ g < w.heap.size ∧ Cl w g k (pI fun i => i) := by
  rcases h.2 with ⟨_, h1⟩ | ⟨g, cap, cur, hv, hg, hh, rest⟩
  · omega
  · refine ⟨g, cap, hv, (Array.getElem?_eq_some_iff.1 hh).1, fun i hi => ?_⟩
    subst hv
    rw [h.cellAt i (by omega)]
    simp [vI, hi, pI]
theorem pref_good (S : Nat → ByteArray) (k m c b o cap : Nat) (w : World) (hk1 : 1 ≤ k) (hkm : k + m ≤ 255) (hc : c ≤ 1000000000000) (hS : ∀ i, i < k → (S i).size = c) (hb : b < w.heap.size) (hC : ∀ i, i < k → w.cell? ⟨b, o + i, none⟩ = some (.string (S i))) : PRef (.good m (vl (fun i => i) (fun i => k + i) k c S)) k m (.slice (some ⟨b, o, none⟩) k cap) w := by
  have HC : Hid _ := hC
  have HS : Hid _ := hS
  clear hC hS
  obtain ⟨i00, hi3, hz0, hz1, hz2⟩ := info_parts info3
  obtain ⟨i01, hi9, hy0, hy1, hy2⟩ := info_parts info9
  unfold PRef
  go_enter Tryz.func195, Tryz.ntmps195
  go_wp2_with fail
  refine (pt_ok k m w hk1 hkm).mono ?_
  rintro e w1 ⟨rfl, rfl⟩
  go_wp2
  go_loopw [10, 9] (fun iv v wr => ∃ i : Nat, i ≤ k ∧ iv = .int .i64 i ∧ wr.ownsRow w1.heap.size 3 1 v i (vI (List.range i)) ∧ Below w1.heap.size w1 wr) (fun iv _ _ => k - (intOf iv).toNat)
  case atStart => exact ⟨0, by omega, rfl, World.ownsRow_nil _ _ _ _, Below.refl _ _⟩
  case round =>
    obtain ⟨i, hi, rfl, hown, hbl⟩ := hrel
    obtain ⟨va, vc, hv⟩ := own_shapeq hown
    subst hv
    have HOW : Hid (wr.ownsRow w1.heap.size 3 1 (.slice va i vc) i (vI (List.range i))) := hown
    have HBL : Hid (Below w1.heap.size w1 wr) := hbl
    clear hown hbl
    by_cases hlt : i < k
    · have c1 : wr.cell? ⟨b, o + i, none⟩ = some (.string (S i)) := (HBL.out.cell (p := ⟨b, o + i, none⟩) hb).trans (HC.out i hlt)
      have c2 : wr.cell? ⟨b, o, none⟩ = some (.string (S 0)) := (HBL.out.cell (p := ⟨b, o, none⟩) hb).trans (HC.out 0 (by omega))
      have hk0 : (0 : Int) < (k : Int) := by omega
      have hik : (i : Int) < (k : Int) := by omega
      have hne : (((S i).size : Int) != ((S 0).size : Int)) = false := by rw [bne_eq_false_iff_eq, HS.out i hlt, HS.out 0 (by omega)]
      go_wp2
      go_quiet (fail)
      have HO2 : Hid ((wr.drewN nq).ownsRow w1.heap.size 3 1 (.slice va i vc) i (vI (List.range i))) := own_below HOW.out (below_drewN (Below.refl _ _) nq)
      have HB2 : Hid (Below w1.heap.size w1 (wr.drewN nq)) := below_drewN HBL.out nq
      obtain ⟨w2, hw2⟩ : ∃ w2, w2 = wr.drewN nq := ⟨_, rfl⟩
      rw [← hw2] at HO2 HB2 ⊢
      clear hw2 HOW HBL c1 c2
      have hB' : w1.heap.size ≤ (w2.alloc (Obj.cells #[Value.int IntKind.i64 ((i : Nat) : Int)] 3)).heap.size := by have := HB2.out.size; simp; omega
      go_wp2_with (at_builtin; refine wpList_append_own_at _ rfl (.tmp 45) (.tmp 47) 39 rfl w1.heap.size 3 i00 (.int .i64 0) 1 8 Tryz.underlying39 hi3 hz0 hz1 hz2 rfl (by decide) _ i (vI (List.range i)) rfl (HO2.out.alloc _) ⟨w2.heap.size, 0, none⟩ 1 1 [.int .i64 ((i : Nat) : Int)] rfl rfl (cell_one_new _ _ _) (one_cell _) ?kb ?kc hB' ?_)
      case kb => unfold maxLen; omega
      case kc => omega
      intro v' w' hown' hgrow _ hblk
      have hbl' : Below w1.heap.size w1 w' := (HB2.out.alloc HB2.out.size _).grown hgrow hB' (fun g hg => (own_ltq HO2.out g hg).1)
      have ho' : w'.ownsRow w1.heap.size 3 1 v' (i + 1) (vI (List.range (i + 1))) := by rw [vI_range]; exact hown'
      clear hown' hgrow hblk HO2 HB2 hB'
      go_wp2
      go_roundw
      case rel => exact ⟨i + 1, by omega, by go_num, ho', hbl'⟩
      case measure => simp [intOf]; omega
    · have e : i = k := by omega
      subst e
      obtain ⟨g, gc, hv, hg, hp⟩ := own_pI HOW.out (by omega)
      simp only [Value.slice.injEq] at hv
      obtain ⟨rfl, _, rfl⟩ := hv
      have HP : Hid (Cl wr g i (pI fun i => i)) := hp
      clear hp HOW
      have HBL2 : Hid (b < wr.heap.size) := Nat.lt_of_lt_of_le hb HBL.out.size
      have HC2 : Hid (∀ j, j < i → wr.cell? ⟨b, o + j, none⟩ = some (.string (S j))) := fun j hj => (HBL.out.cell (p := ⟨b, o + j, none⟩) hb).trans (HC.out j hj)
      obtain ⟨w3, hw3⟩ : ∃ w3, w3 = wr := ⟨_, rfl⟩
      rw [← hw3] at HP HBL2 HC2 HBL hg ⊢
      clear hw3
      go_wp2
      go_loopw [12, 11] (fun jv v wq => ∃ j : Nat, j ≤ m ∧ jv = .int .i64 j ∧ wq.ownsRow w3.heap.size 9 1 v j (tV (vl (fun i => i) (fun l => i + l) i c S) j) ∧ Below w3.heap.size w3 wq) (fun jv _ _ => m - (intOf jv).toNat)
      case atStart => exact ⟨0, by omega, rfl, World.ownsRow_nil _ _ _ _, Below.refl _ _⟩
      case round =>
        obtain ⟨j, hj, rfl, hown, hbl⟩ := hrel
        obtain ⟨ua, uc, hu⟩ := own_shapeq hown
        subst hu
        have HO : Hid (wr.ownsRow w3.heap.size 9 1 (.slice ua j uc) j (tV (vl (fun i => i) (fun l => i + l) i c S) j)) := hown
        have HB : Hid (Below w3.heap.size w3 wr) := hbl
        clear hown hbl
        by_cases hlj : j < m
        · have HVAL : Hid _ := value_any (fun l => l) S i (i + j) g vc b o cap c wr (by omega) (by omega) (by omega) (fun l hl => by omega) hc HS.out (Nat.lt_of_lt_of_le hg HB.out.size) (Cl.below HP.out HB.out hg) (Nat.lt_of_lt_of_le HBL2.out HB.out.size) (fun l hl => (HB.out.cell (p := ⟨b, o + l, none⟩) HBL2.out).trans (HC2.out l hl))
          have hij : ((i : Int) + (j : Int)) = ((i + j : Nat) : Int) := by omega
          have HIJ : Hid _ := hij
          clear hij
          go_wp2_with fail
          rw [HIJ.out]
          refine Calls.mono HVAL.out ?_
          rintro e w4 ⟨rfl, hb4⟩
          have HTX : Hid (vl (fun i => i) (fun l => i + l) i c S j = (txtN c fun l => sm (wt (fun l => l) i (i + j)) (fun i l => bN (S i) l) l i)) := rfl
          obtain ⟨t, ht⟩ : ∃ t, (txtN c fun l => sm (wt (fun l => l) i (i + j)) (fun i l => bN (S i) l) l i) = t := ⟨_, rfl⟩
          rw [ht] at HTX ⊢
          clear ht HVAL
          have HO4 : Hid (w4.ownsRow w3.heap.size 9 1 (.slice ua j uc) j (tV (vl (fun i => i) (fun l => i + l) i c S) j)) := own_below HO.out hb4
          have HB4 : Hid (Below w3.heap.size w3 w4) := HB.out.trans (hb4.mono HB.out.size)
          clear HO HB hb4
          have hB' : w3.heap.size ≤ (w4.alloc (Obj.cells #[Value.string t] 9)).heap.size := by have := HB4.out.size; simp; omega
          go_wp2_with (at_builtin; refine wpList_append_own_at _ rfl (.tmp 60) (.tmp 62) 42 rfl w3.heap.size 9 i01 (.string ⟨#[]⟩) 1 16 Tryz.underlying42 hi9 hy0 hy1 hy2 rfl (by decide) _ j (tV (vl (fun i => i) (fun l => i + l) i c S) j) rfl (HO4.out.alloc _) ⟨w4.heap.size, 0, none⟩ 1 1 [.string t] rfl rfl (cell_one_new _ _ _) (str_one _) ?kb ?kc hB' ?_)
          case kb => unfold maxLen; omega
          case kc => omega
          intro v' w' hown' hgrow _ hblk
          have hbl' : Below w3.heap.size w3 w' := (HB4.out.alloc HB4.out.size _).grown hgrow hB' (fun g hg => (own_ltq HO4.out g hg).1)
          have ho' : w'.ownsRow w3.heap.size 9 1 v' (j + 1) (tV (vl (fun i => i) (fun l => i + l) i c S) (j + 1)) := by rw [tV_snocq, HTX.out]; exact hown'
          clear hown' hgrow hblk HO4 HB4 hB'
          go_wp2
          go_roundw
          case rel => exact ⟨j + 1, by omega, by go_num, ho', hbl'⟩
          case measure => simp [intOf]; omega
        · have e : j = m := by omega
          subst e
          go_wp2
          go_ret2
          exact ⟨_, _, rfl, rfl, own_baseq HO.out HBL.out.size, HBL.out.trans (HB.out.mono HBL.out.size)⟩
end Go.Proofs.YtadinjaocnlglaaGreatDoor
