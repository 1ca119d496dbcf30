/-
  The walk of vaultref's value.
-/
import Derived.Test.YtbjgchlckmecaaaDoorQ2
import Derived.Test.YtbjgchlckmecaaaDoorW2
namespace Go.Proofs.YtbjgchlckmecaaaDoor
open Go.RowKit
set_option maxRecDepth 100000
/-- bytes that are told by a function, as values -/
def byV (f : Nat → Nat) (c : Nat) : List Value := (List.range c).map fun l => .int .u8 ((f l : Nat) : Int)
theorem byV_len (f : Nat → Nat) (c : Nat) : (byV f c).length = c := by simp [byV]
theorem byV_snoc (f : Nat → Nat) (c : Nat) : byV f (c + 1) = byV f c ++ [.int .u8 ((f c : Nat) : Int)] := by simp [byV, List.range_succ]
set_option maxHeartbeats 4000000 in
theorem value_any (p : Nat → Nat) (S : Nat → ByteArray) (n x b cap b2 o2 cap2 c : Nat) (w : World) (hn0 : 0 < n) (hn : n ≤ 1000) (hx : x < 256) (hp : ∀ i, i < n → p i < 256) (hc : c ≤ 1000000000000) (hS : ∀ i, i < n → (S i).size = c)
    (hb : b < w.heap.size) (hC : Cl w b n (pI p)) (hb2 : b2 < w.heap.size) (hC2 : ∀ i, i < n → w.cell? ⟨b2, o2 + i, none⟩ = some (.string (S i))) :
    Calls Tryd.prog 24 #[.slice (some ⟨b, 0, none⟩) n cap, .slice (some ⟨b2, o2, none⟩) n cap2, .int .i64 x] w fun e w' => e = .returned (.string (txtN c fun l => sm (wt p n x) (fun i l => bN (S i) l) l n)) ∧ Below w.heap.size w w' := by
  have H : Hid _ := shares_any p b n cap x w hn hx hp hb hC
  have HS : Hid _ := hS
  have HC2 : Hid _ := hC2
  clear hS hC2 hC hp
  obtain ⟨f, hf⟩ : ∃ f : Nat → Nat, (fun l => sm (wt p n x) (fun i l => bN (S i) l) l n) = f := ⟨_, rfl⟩
  have hfl : ∀ l, f l < 256 := fun l => by rw [← hf]; exact sm_wt_lt p _ n x l n
  rw [hf]
  have HF : Hid (∀ l, f l = sm (wt p n x) (fun i l => bN (S i) l) l n) := fun l => by rw [← hf]
  have HFL : Hid _ := hfl
  clear hf hfl
  obtain ⟨i0, hi, hz0, hz1, hz2⟩ := info_parts info5
  go_enter Tryd.func24, Tryd.ntmps24
  go_wp2_with fail
  refine Calls.mono H.out ?_
  rintro e w1 ⟨rfl, hR1, hB1⟩
  have HR1 : Hid (Rw w1 w.heap.size n 3 (pI (wt p n x))) := hR1
  have HB1 : Hid _ := hB1
  have hwl : w.heap.size < w1.heap.size := hR1.lt
  clear hR1 hB1 H
  obtain ⟨gw, hgw⟩ : ∃ gw, gw = w.heap.size := ⟨_, rfl⟩
  rw [← hgw] at HR1 hwl ⊢
  have hb2w : b2 < gw := by omega
  have HGW : Hid _ := hgw
  clear hgw
  have HC1 : Hid (∀ i, i < n → w1.cell? ⟨b2, o2 + i, none⟩ = some (.string (S i))) := fun i hin => (HB1.out.cell (p := ⟨b2, o2 + i, none⟩) hb2).trans (HC2.out i hin)
  go_wp2
  go_loopw [9, 8] (fun iv v wr => ∃ l : Nat, l ≤ c ∧ iv = .int .i64 l ∧ wr.ownsRow w1.heap.size 5 1 v l (byV f l) ∧ Below w1.heap.size w1 wr) (fun iv _ _ => c - (intOf iv).toNat)
  case atStart => exact ⟨0, by omega, rfl, World.ownsRow_nil _ _ _ _, Below.refl _ _⟩
  case round =>
    obtain ⟨l, hl, rfl, hown, hbl⟩ := hrel
    obtain ⟨va, vc, hv⟩ := own_shape hown
    subst hv
    have HOW : Hid (wr.ownsRow w1.heap.size 5 1 (.slice va l vc) l (byV f l)) := hown
    have HBL : Hid (Below w1.heap.size w1 wr) := hbl
    have c0 : wr.cell? ⟨b2, o2, none⟩ = some (.string (S 0)) := (hbl.cell (p := ⟨b2, o2, none⟩) (by simp; omega)).trans (HC1.out 0 hn0)
    have hs0 := HS.out 0 hn0
    clear hown hbl
    by_cases hlt : l < c
    · have h1 : (l : Int) < ((S 0).size : Int) := by omega
      go_wp2
      go_loopw [11, 10] (fun iv sv wq => ∃ k q : Nat, k ≤ n ∧ iv = .int .i64 k ∧ sv = .int .i64 ((sm (wt p n x) (fun i l => bN (S i) l) l k : Nat) : Int) ∧ wq = wr.drewN q) (fun iv _ _ => n - (intOf iv).toNat)
      case atStart => exact ⟨0, 0, by omega, rfl, rfl, rfl⟩
      case round =>
        obtain ⟨k, q, hk, rfl, rfl, hq⟩ := hrel
        have hsl := sm_wt_lt p (fun i l => bN (S i) l) n x l k
        by_cases hlk : k < n
        · have HN : Hid (sm (wt p n x) (fun i l => bN (S i) l) l (k + 1) = sm (wt p n x) (fun i l => bN (S i) l) l k ^^^ gm (wt p n x k) (bN (S k) l)) := rfl
          obtain ⟨s, hs⟩ : ∃ s, sm (wt p n x) (fun i l => bN (S i) l) l k = s := ⟨_, rfl⟩
          rw [hs] at HN hsl ⊢
          have hwk := wt_lt p n x k
          have hbk := bN_lt (S k) l
          have hgl : gm (wt p n x k) (bN (S k) l) < 256 := gm_lt _ _ hwk
          have HXO : Hid _ := i64_xor_nat s (gm (wt p n x k) (bN (S k) l)) (by omega) (by omega)
          have c3 : wr.cell? ⟨gw, k, none⟩ = some (.int .i64 ((wt p n x k : Nat) : Int)) := by rw [hq]; exact (HBL.out.cell (p := ⟨gw, k, none⟩) hwl).trans (HR1.out.cell k hlk)
          have c4 : wr.cell? ⟨b2, o2 + k, none⟩ = some (.string (S k)) := by rw [hq]; exact (HBL.out.cell (p := ⟨b2, o2 + k, none⟩) (by simp; omega)).trans (HC1.out k hlk)
          have hix := index_bN (S k) l (by rw [HS.out k hlk]; exact hlt)
          have HQ : Hid _ := hq
          clear hq hs
          go_wp2
          go_quiet (first | (go_at_call 33; exact Calls.quiet_of_same (mul_any _ _ _ hwk hbk)))
          go_wp2
          go_roundw
          case rel => exact ⟨k + 1, _, by omega, by go_num, by rw [HN.out, HXO.out], by rw [HQ.out, World.drewN_drewN]⟩
          case measure => simp [intOf]; omega
        · have e : k = n := by omega
          have HO : Hid (wr.ownsRow w1.heap.size 5 1 (.slice va l vc) l (byV f l)) := by show wr.ownsRow _ _ _ _ _ _; rw [hq]; exact own_below HOW.out (below_drewN (Below.refl _ _) q)
          have HB : Hid (Below w1.heap.size w1 wr) := by show Below _ _ _; rw [hq]; exact below_drewN HBL.out q
          rw [e, ← HF.out l] at hsl ⊢
          clear hq
          have hmod : ((f l : Nat) : Int) % 256 = ((f l : Nat) : Int) := by omega
          have hB' : w1.heap.size ≤ (wr.alloc (Obj.cells #[Value.int IntKind.u8 ((f l : Nat) : Int)] 5)).heap.size := by have := HB.out.size; simp; omega
          go_wp2_with (at_builtin; refine wpList_append_own_at _ rfl (.tmp 43) (.tmp 46) 87 rfl w1.heap.size 5 i0 (.int .u8 0) 1 1 Tryd.underlying87 hi hz0 hz1 hz2 rfl (by decide) _ l (byV f l) rfl (HO.out.alloc _) ⟨wr.heap.size, 0, none⟩ 1 1 [.int .u8 ((f l : Nat) : Int)] rfl rfl (cell_one_new _ _ _) (by intro u hu; simp at hu; subst hu; rfl) ?kb ?kc hB' ?_)
          case kb => unfold maxLen; omega
          case kc => omega
          intro v' w' hown' hgrow _ hblk
          have hbl' : Below w1.heap.size w1 w' := (HB.out.alloc HB.out.size _).grown hgrow hB' (fun g hg => (own_lt HO.out g hg).1)
          have ho' : w'.ownsRow w1.heap.size 5 1 v' (l + 1) (byV f (l + 1)) := by rw [byV_snoc]; exact hown'
          clear hown' hgrow hblk HO HB HOW HBL hB'
          go_wp2
          go_roundw
          case rel => exact ⟨l + 1, by omega, by go_num, ho', hbl'⟩
          case measure => simp [intOf]; omega
    · have e : l = c := by omega
      subst e
      have h1 : ((S 0).size : Int) ≤ (l : Int) := by omega
      rcases HOW.out.2 with ⟨hv, h0⟩ | ⟨g, cap', cur, hv, hg, hh, rest⟩
      · simp only [Value.slice.injEq] at hv
        obtain ⟨rfl, rfl, rfl⟩ := hv
        have hcv : ∀ W : World, (convert 87 9 (.slice none 0 0)).run Tryd.prog W = .ok (.string ⟨#[]⟩) W := fun W => by kernel_rfl
        go_wp2
        go_ret
        exact ⟨by congr 2, HB1.out.trans (HBL.out.mono HB1.out.size)⟩
      · simp only [Value.slice.injEq] at hv
        obtain ⟨rfl, _, rfl⟩ := hv
        have hcv := run_convert_bytes_arg (P := Tryd.prog) wr 87 5 Tryd.underlying87 Tryd.underlying5 g 0 l vc ((List.range l).map fun i => ((f i : Nat) : Int)) (by simp) (fun i hi => by
          rw [Nat.zero_add, HOW.out.cellAt i (by omega)]
          simp [byV, hi]) 9 Tryd.underlying9
        go_wp2
        go_ret
        exact ⟨rfl, HB1.out.trans (HBL.out.mono HB1.out.size)⟩
end Go.Proofs.YtbjgchlckmecaaaDoor
