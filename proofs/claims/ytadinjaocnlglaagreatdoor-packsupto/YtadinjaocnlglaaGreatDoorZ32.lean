/-
  Close of a Draft, whatever it answers: the walks.
  The walk of vaultref's Top.
  The walks of vaultref's varint, Leaf and Rooted.
  The walk of vaultref's leaves.
-/
import Derived.Test.YtadinjaocnlglaaGreatDoorZ31
import Derived.Test.YtadinjaocnlglaaGreatDoorZ23
import Derived.Test.YtadinjaocnlglaaGreatDoorZ07
namespace Go.Proofs.YtadinjaocnlglaaGreatDoor
open Go.RowKit Go.Maps
set_option maxRecDepth 100000
set_option maxHeartbeats 1000000
theorem dclose_cl (g K M C V n len : Nat) (obj last : Value) (br : Bool) (fk fw : Int) (w : World) (hg : w.heap[g]? = some (.cells (dZ K M C V obj last n len br fk fw true) 252 (0, 0))) :
    Calls Tryz.prog 103 #[.pointer (some ⟨g, 0, none⟩)] w fun e w' => ∃ v, e = .returned (.tuple #[.slice none 0 0, .string ⟨#[]⟩, v]) ∧ ErrAt w' v [(5, (n : Int))] ∧ Below w.heap.size w w' := by
  have c6 : w.cell? ⟨g, 6, none⟩ = some (.int .i64 n) := cell_of_row _ _ _ _ 252 _ hg
  have c11 : w.cell? ⟨g, 11, none⟩ = some (.bool true) := cell_of_row _ _ _ _ 252 _ hg
  clear hg
  go_enter_defers Tryz.func103, Tryz.ntmps103
  go_wp2_with fail
  refine (at_err _ _ _).mono ?_
  rintro e w1 ⟨g1, rfl, h1, hb⟩
  have HE : Hid (ErrAt w1 (.iface 305 (.pointer (some ⟨g1, 0, none⟩))) [(5, (n : Int))]) := ⟨g1, _, rfl, h1, rfl⟩
  have HB : Hid _ := hb
  clear h1 hb
  go_wp2
  exact ⟨_, results_tmp3 rfl _ _ _, _, rfl, HE.out, HB.out⟩
/-- what was told stays told when a Draft lets go -/
theorem ErrAt.letGo {w : World} {v : Value} {l : List (Int × Int)} {g : Nat} {cs : Array Value} (h : ErrAt w v l) (hg : w.heap[g]? = some (.cells cs 252 (0, 0))) (a b : Value) : ErrAt ((w.setCell ⟨g, 4, none⟩ a).setCell ⟨g, 5, none⟩ b) v l :=
  h.kept fun e cs' he => by
    have hne : e ≠ g := fun e' => by rw [e', hg] at he; simp at he
    rw [set_other _ _ _ _ _ hne, set_other _ _ _ _ _ hne]
theorem dclose_br (g K M C V n len : Nat) (obj last : Value) (fk fw : Int) (w : World) (hg : w.heap[g]? = some (.cells (dZ K M C V obj last n len true fk fw false) 252 (0, 0))) :
    Calls Tryz.prog 103 #[.pointer (some ⟨g, 0, none⟩)] w fun e w' => ∃ v, e = .returned (.tuple #[.slice none 0 0, .string ⟨#[]⟩, v]) ∧ ErrAt w' v [(6, (n : Int)), (fk, fw)] ∧ w'.heap[g]? = some (.cells (dZ K M C V (.map none) (.pointer none) n len true fk fw true) 252 (0, 0)) ∧ Fr (fun x => x = g) w w' := by
  have c8 : w.cell? ⟨g, 8, none⟩ = some (.bool true) := cell_of_row _ _ _ _ 252 _ hg
  have c11 : w.cell? ⟨g, 11, none⟩ = some (.bool false) := cell_of_row _ _ _ _ 252 _ hg
  have f11 : w.frozen? ⟨g, 11, none⟩ = false := frozen_of_row _ _ _ _ 252 hg
  obtain ⟨W, hW⟩ : ∃ W, w.setCell ⟨g, 11, none⟩ (.bool true) = W := ⟨_, rfl⟩
  have hgW : W.heap[g]? = some (.cells (dZ K M C V obj last n len true fk fw true) 252 (0, 0)) := by
    rw [← hW]; have := set_heap w g 11 (.bool true) _ _ _ hg; simpa [dZ] using this
  have HFR : Hid (Fr (fun x => x = g) w W) := by
    show Fr _ _ _
    rw [← hW]; exact (Fr.refl (fun x => x = g) w).set (g := g) (.inl rfl) 11 _
  have d8 : W.cell? ⟨g, 8, none⟩ = some (.bool true) := cell_of_row _ _ _ _ 252 _ hgW
  have H : Hid _ := overFirst_any 6 g K M C V n len obj last true true fk fw W hgW
  have HGW : Hid _ := hgW
  have hgl : g < W.heap.size := (Array.getElem?_eq_some_iff.1 hgW).1
  clear hg hgW
  go_enter_defers Tryz.func103, Tryz.ntmps103
  go_wp2_with fail
  clear hW c8 c11 f11
  refine Calls.mono H.out ?_
  rintro e w1 ⟨v, rfl, hE, hb⟩
  have HE : Hid (ErrAt w1 v [(6, (n : Int)), (fk, fw)]) := hE
  have hg1 : w1.heap[g]? = some (.cells (dZ K M C V obj last n len true fk fw true) 252 (0, 0)) := by rw [hb.block g hgl]; exact HGW.out
  have HF1 : Hid (Fr (fun x => x = g) w w1) := HFR.out.thenBelow hb
  clear hE hb d8
  go_wp2
  refine leaves_cons (f := 152) (args := #[.pointer (some ⟨g, 0, none⟩)]) (by simp) (by simp [go_sem]) ?_
  refine (letGo_d g .returning w1 obj last (cell_of_row _ _ _ _ 252 _ hg1) (cell_of_row _ _ _ _ 252 _ hg1) (fun k => frozen_of_row _ _ _ _ 252 hg1)).mono ?_
  rintro e u' w6 ⟨rfl, rfl, rfl⟩
  refine ⟨_, results_tmp3 rfl _ _ _, _, rfl, HE.out.letGo hg1 _ _, ?_, (HF1.out.set (g := g) (.inl rfl) 4 _).set (g := g) (.inl rfl) 5 _⟩
  have h1 := set_heap w1 g 4 (.map none) _ _ _ hg1
  have h2 := set_heap _ g 5 (.pointer none) _ _ _ h1
  exact h2
theorem dclose_big (g K M C V n len : Nat) (obj last : Value) (w : World) (hg : w.heap[g]? = some (.cells (dZ K M C V obj last n len false 0 0 false) 252 (0, 0))) (hl1 : len ≤ 100000) (hK1 : 1 ≤ K) (hKM : K + M ≤ 255) (hC1 : 1 ≤ C) (hC2 : C ≤ 64) (hB : 512 < nst (K * C) len * (K + M)) :
    Calls Tryz.prog 103 #[.pointer (some ⟨g, 0, none⟩)] w fun e w' => ∃ v, e = .returned (.tuple #[.slice none 0 0, .string ⟨#[]⟩, v]) ∧ ErrAt w' v [(4, ((nst (K * C) len * (K + M) : Nat) : Int))] ∧ w'.heap[g]? = some (.cells (dZ K M C V (.map none) (.pointer none) n len false 0 0 true) 252 (0, 0)) ∧ Fr (fun x => x = g) w w' := by
  have c8 : w.cell? ⟨g, 8, none⟩ = some (.bool false) := cell_of_row _ _ _ _ 252 _ hg
  have c11 : w.cell? ⟨g, 11, none⟩ = some (.bool false) := cell_of_row _ _ _ _ 252 _ hg
  have f11 : w.frozen? ⟨g, 11, none⟩ = false := frozen_of_row _ _ _ _ 252 hg
  obtain ⟨W, hW⟩ : ∃ W, w.setCell ⟨g, 11, none⟩ (.bool true) = W := ⟨_, rfl⟩
  have hgW : W.heap[g]? = some (.cells (dZ K M C V obj last n len false 0 0 true) 252 (0, 0)) := by
    rw [← hW]; have := set_heap w g 11 (.bool true) _ _ _ hg; simpa [dZ] using this
  have HFR : Hid (Fr (fun x => x = g) w W) := by
    show Fr _ _ _
    rw [← hW]; exact (Fr.refl (fun x => x = g) w).set (g := g) (.inl rfl) 11 _
  have d8 : W.cell? ⟨g, 8, none⟩ = some (.bool false) := cell_of_row _ _ _ _ 252 _ hgW
  have HGW : Hid _ := hgW
  have hgl : g < W.heap.size := (Array.getElem?_eq_some_iff.1 hgW).1
  have hz0 : 0 < K * C := Nat.mul_pos hK1 hC1
  have hz1 : K * C ≤ 100000 := Nat.le_trans (Nat.mul_le_mul (show K ≤ 255 by omega) hC2) (by omega)
  have H29 : Hid (∀ X, Calls Tryz.prog 154 #[.agg #[.int .i64 K, .int .i64 M, .int .i64 C, .int .i64 V], .int .i64 len] X fun e w' => e = .returned (.int .i64 (nst (K * C) len * (K + M) : Nat)) ∧ Below X.heap.size X w') := fun X => countBlocks_any K M C V len (K * C) X rfl hz0 hz1 hl1 (by omega) (by omega)
  obtain ⟨cn, hcn⟩ : ∃ cn, nst (K * C) len * (K + M) = cn := ⟨_, rfl⟩
  rw [hcn] at H29 hB ⊢
  clear hcn
  have hc1 : ((cn : Int) > 512) := by omega
  clear hg
  go_enter_defers Tryz.func103, Tryz.ntmps103
  go_wp2_with fail
  clear hW c8 c11 f11 d8
  have d0 : W.cell? ⟨g, 0, none⟩ = some (.int .i64 K) := cell_of_row _ _ _ _ 252 _ hgW
  have d1 : W.cell? ⟨g, 1, none⟩ = some (.int .i64 M) := cell_of_row _ _ _ _ 252 _ hgW
  have d2 : W.cell? ⟨g, 2, none⟩ = some (.int .i64 C) := cell_of_row _ _ _ _ 252 _ hgW
  have d3 : W.cell? ⟨g, 3, none⟩ = some (.int .i64 V) := cell_of_row _ _ _ _ 252 _ hgW
  have d7 : W.cell? ⟨g, 7, none⟩ = some (.int .i64 len) := cell_of_row _ _ _ _ 252 _ hgW
  go_region_held3 (fun w2 => w2.cell? ⟨g, 0, none⟩ = some (.int .i64 K) ∧ w2.cell? ⟨g, 1, none⟩ = some (.int .i64 M) ∧ w2.cell? ⟨g, 2, none⟩ = some (.int .i64 C) ∧ w2.cell? ⟨g, 3, none⟩ = some (.int .i64 V) ∧ w2.cell? ⟨g, 7, none⟩ = some (.int .i64 len)) (go_keep) ((go_at_call 154; refine Calls.mono (H29.out _) ?_; rintro e w2 ⟨rfl, hb2⟩; have hB2 : Below W.heap.size W w2 := (by first | exact hb2 | exact ((Below.refl _ _).drew).trans hb2); have q0 : w2.cell? ⟨g, 0, none⟩ = some (.int .i64 K) := ((hB2.cell (p := ⟨g, 0, none⟩) hgl).trans d0); have q1 : w2.cell? ⟨g, 1, none⟩ = some (.int .i64 M) := ((hB2.cell (p := ⟨g, 1, none⟩) hgl).trans d1); have q2 : w2.cell? ⟨g, 2, none⟩ = some (.int .i64 C) := ((hB2.cell (p := ⟨g, 2, none⟩) hgl).trans d2); have q3 : w2.cell? ⟨g, 3, none⟩ = some (.int .i64 V) := ((hB2.cell (p := ⟨g, 3, none⟩) hgl).trans d3); have q7 : w2.cell? ⟨g, 7, none⟩ = some (.int .i64 len) := ((hB2.cell (p := ⟨g, 7, none⟩) hgl).trans d7)))
  have HB2 : Hid (Below W.heap.size W w2) := hB2
  clear hB2 hb2 q0 q1 q2 q3 q7 d0 d1 d2 d3 d7 H29
  go_wp2_with fail
  refine (at_err _ _ _).mono ?_
  rintro e w3 ⟨g1, rfl, h1, hb3⟩
  have HE : Hid (ErrAt w3 (.iface 305 (.pointer (some ⟨g1, 0, none⟩))) [(4, (cn : Int))]) := ⟨g1, _, rfl, h1, rfl⟩
  have hB3 : Below W.heap.size W w3 := HB2.out.trans (hb3.mono HB2.out.size)
  have hg3 : w3.heap[g]? = some (.cells (dZ K M C V obj last n len false 0 0 true) 252 (0, 0)) := by rw [hB3.block g hgl]; exact HGW.out
  have HF1 : Hid (Fr (fun x => x = g) w w3) := HFR.out.thenBelow hB3
  clear h1 hb3 hB3
  go_wp2
  refine leaves_cons (f := 152) (args := #[.pointer (some ⟨g, 0, none⟩)]) (by simp) (by simp [go_sem]) ?_
  refine (letGo_d g .returning w3 obj last (cell_of_row _ _ _ _ 252 _ hg3) (cell_of_row _ _ _ _ 252 _ hg3) (fun k => frozen_of_row _ _ _ _ 252 hg3)).mono ?_
  rintro e u' w6 ⟨rfl, rfl, rfl⟩
  refine ⟨_, results_tmp3 rfl _ _ _, _, rfl, HE.out.letGo hg3 _ _, ?_, (HF1.out.set (g := g) (.inl rfl) 4 _).set (g := g) (.inl rfl) 5 _⟩
  have h1 := set_heap w3 g 4 (.map none) _ _ _ hg3
  have h2 := set_heap _ g 5 (.pointer none) _ _ _ h1
  exact h2
end Go.Proofs.YtadinjaocnlglaaGreatDoor
namespace Go.Proofs.YtadinjaocnlglaaGreatDoor
open Go.RowKit
set_option maxRecDepth 100000
set_option maxHeartbeats 1000000
theorem half_any (n : Nat) (w : World) (h2 : 2 ≤ n) (h : n < 9223372036854775808) :
    Calls Tryz.prog 138 #[.int .i64 n] w fun e w' => e = .returned (.int .i64 (hf n : Nat)) ∧ w' = w := by
  have HU : Hid (∀ e : Nat, 2 ^ e < n → n ≤ 2 * 2 ^ e → 2 ^ e = hf n) := fun e h h' => hf_one e n h h'
  go_enter Tryz.func138, Tryz.ntmps138
  go_wp2
  go_loop [3] (fun pv => ∃ p e : Nat, p = 2 ^ e ∧ pv = .int .i64 p ∧ p < n) (fun pv => n - (intOf pv).toNat)
  case atStart => exact ⟨1, 0, rfl, rfl, by omega⟩
  case round =>
    obtain ⟨p, e, hpe, rfl, hpn⟩ := hrel
    have hp0 : 0 < p := by rw [hpe]; exact Nat.two_pow_pos _
    have HPE : Hid _ := hpe
    clear hpe
    by_cases hlt : (p : Int) < (n : Int) - (p : Int)
    · go_wp2
      go_round
      case rel => exact ⟨2 * p, e + 1, by rw [HPE.out, Nat.pow_succ]; omega, by go_num, by omega⟩
      case measure => simp [intOf]; omega
    · have hpm : p = hf n := by
        have := HU.out e (by rw [← HPE.out]; exact hpn) (by rw [← HPE.out]; omega)
        rw [HPE.out]; exact this
      go_wp2
      go_ret
      exact ⟨rfl, rfl⟩
theorem joint_any (a b : ByteArray) (w : World) (ha : a.size ≤ 35184372088832) (hb : b.size ≤ 35184372088832) :
    Calls Tryz.prog 139 #[.string a, .string b] w fun e w' => e = .returned (.string (⟨#[1]⟩ ++ a ++ b)) ∧ w' = w := by
  go_enter Tryz.func139, Tryz.ntmps139
  go_wp2
  go_ret
  exact ⟨rfl, rfl⟩
theorem len3 (a b : ByteArray) (ha : a.size ≤ 35184372088832) (hb : b.size ≤ 35184372088832) : ((⟨#[1]⟩ : ByteArray) ++ a ++ b).size ≤ 140737488351232 := by
  simp only [ByteArray.size_append]
  have : (⟨#[1]⟩ : ByteArray).size = 1 := rfl
  omega
theorem rtop_any (kt : Nat → Int) : ∀ (n : Nat) (L : Nat → ByteArray) (b o cap : Nat) (w : World), n ≤ cap → cap < 9223372036854775808 → Gr kt w → b < w.heap.size → (∀ i, i < n → (L i).size ≤ 35184372088832) → Co w b o n (tI L) →
    Calls Tryz.prog 137 #[.slice (some ⟨b, o, none⟩) n cap] w fun e w' => e = .returned (.string (topT (ofT kt) n L)) ∧ Below w.heap.size w w' := by
  intro n
  induction n using Nat.strongRecOn with
  | ind n ih =>
  intro L b o cap w hn hc hG hb hL hC
  by_cases h0 : n = 0
  · subst h0
    have H : Hid _ := rdigest_any kt ⟨#[]⟩ w (by decide) hG
    rw [topT_0]
    clear ih hC hL hG
    go_enter Tryz.func137, Tryz.ntmps137
    go_wp2_with fail
    refine Calls.mono H.out ?_
    rintro e w1 ⟨rfl, hB⟩
    go_wp2
    go_ret
    exact ⟨rfl, hB⟩
  · by_cases h1 : n = 1
    · subst h1
      rw [topT_1]
      have c0 : w.cell? ⟨b, o, none⟩ = some (.string (L 0)) := hC 0 (by omega)
      clear ih hC hL hG
      go_enter Tryz.func137, Tryz.ntmps137
      go_wp2
      go_ret
      exact ⟨rfl, Below.refl _ _⟩
    · have h2 : 2 ≤ n := by omega
      rw [topT_n _ n L h2]
      have e1 := hf_lt n h2
      have e2 := hf_pos n
      have HH : Hid _ := fun W => half_any n W h2 (by omega)
      have H1 : Hid _ := fun W => ih (hf n) e1 L b o cap W (by omega) hc
      have H2 : Hid _ := fun W => ih (n - hf n) (by omega) (fun j => L (hf n + j)) b (o + hf n) (cap - hf n) W (by omega) (by omega)
      have hT1 := topT_le (ofT kt) 35184372088832 (ofT_le kt) (hf n) L (fun i hi => hL i (by omega))
      have hT2 := topT_le (ofT kt) 35184372088832 (ofT_le kt) (n - hf n) (fun j => L (hf n + j)) (fun i hi => hL _ (by omega))
      have HL : Hid _ := hL
      have HC : Hid (Co w b o n (tI L)) := hC
      have HG : Hid _ := hG
      have hd0 : ((n : Int) == 0) = false := by simp; omega
      have hd1 : ((n : Int) == 1) = false := by simp; omega
      obtain ⟨A, hA⟩ : ∃ A, topT (ofT kt) (hf n) L = A := ⟨_, rfl⟩
      obtain ⟨B, hBB⟩ : ∃ B, topT (ofT kt) (n - hf n) (fun j => L (hf n + j)) = B := ⟨_, rfl⟩
      rw [hA] at hT1 H1 ⊢
      rw [hBB] at hT2 H2 ⊢
      obtain ⟨m, hm2⟩ : ∃ m, hf n = m := ⟨_, rfl⟩
      rw [hm2] at e1 e2 HH H1 H2
      clear ih hC hL hG hA hBB hm2
      go_enter Tryz.func137, Tryz.ntmps137
      go_wp2_with fail
      refine Calls.mono (HH.out _) ?_
      rintro e w1 ⟨rfl, rfl⟩
      go_wp2_with fail
      refine Calls.mono (H1.out _ HG.out hb (fun i hi => HL.out i (by omega)) (Co.lo HC.out (by omega))) ?_
      rintro e w2 ⟨rfl, hB2⟩
      have HB2 : Hid (Below w1.heap.size w1 w2) := hB2
      have hb2 : b < w2.heap.size := Nat.lt_of_lt_of_le hb hB2.size
      clear hB2
      go_wp2_with fail
      refine Calls.mono (H2.out _ (HG.out.below HB2.out) hb2 (fun i hi => HL.out _ (by omega)) ((Co.hi HC.out (by omega)).below HB2.out hb)) ?_
      rintro e w3 ⟨rfl, hB3⟩
      have HB3 : Hid (Below w1.heap.size w1 w3) := HB2.out.trans (hB3.mono HB2.out.size)
      clear hB3
      go_wp2_with fail
      refine (joint_any A B _ hT1 hT2).mono ?_
      rintro e w3' ⟨rfl, rfl⟩
      go_wp2_with fail
      refine (rdigest_any kt _ w3' (len3 A B hT1 hT2) (HG.out.below HB3.out)).mono ?_
      rintro e w4 ⟨rfl, hB4⟩
      have hB14 : Below w1.heap.size w1 w4 := HB3.out.trans (hB4.mono HB3.out.size)
      clear hB4
      go_wp2
      go_ret
      exact ⟨rfl, hB14⟩
theorem rtop_nil (kt : Nat → Int) (L : Nat → ByteArray) (w : World) (hG : Gr kt w) :
    Calls Tryz.prog 137 #[.slice none 0 0] w fun e w' => e = .returned (.string (topT (ofT kt) 0 L)) ∧ Below w.heap.size w w' := by
  have H : Hid _ := rdigest_any kt ⟨#[]⟩ w (by decide) hG
  rw [topT_0]
  clear hG
  go_enter Tryz.func137, Tryz.ntmps137
  go_wp2_with fail
  refine Calls.mono H.out ?_
  rintro e w1 ⟨rfl, hB⟩
  go_wp2
  go_ret
  exact ⟨rfl, hB⟩
end Go.Proofs.YtadinjaocnlglaaGreatDoor
namespace Go.Proofs.YtadinjaocnlglaaGreatDoor
open Go.RowKit
set_option maxRecDepth 100000
set_option maxHeartbeats 2000000
/-- one byte as a text -/
theorem byte_conv (W : World) (g x : Nat) (h : W.cell? ⟨g, 0, none⟩ = some (.int .u8 ((x : Nat) : Int))) : (convert 165 9 (.slice (some ⟨g, 0, none⟩) 1 1)).run Tryz.prog W = .ok (.string (strOfNums [((x : Nat) : Int)])) W :=
  run_convert_bytes_arg (P := Tryz.prog) W 165 5 Tryz.underlying165 Tryz.underlying5 g 0 1 1 [((x : Nat) : Int)] rfl (fun i hi => by
    have : i = 0 := by simp at hi; omega
    subst this; simpa using h) 9 Tryz.underlying9
theorem strOfNums_cons (x : Int) (l : List Int) : strOfNums (x :: l) = strOfNums [x] ++ strOfNums l := by
  simp [strOfNums]
  apply ByteArray.ext
  simp
theorem rvint_at : ∀ (f n : Nat) (w : World), f ≤ 4 → n < 128 ^ (f + 1) →
    Calls Tryz.prog 136 #[.int .i64 n] w fun e w' => e = .returned (.string (strOfNums ((vb f n).map fun x => ((x : Nat) : Int)))) ∧ Below w.heap.size w w'
  | f, n, w, hf, hn => by
    by_cases hlt : n < 128
    · have e1 : vb f n = [n] := by cases f <;> simp [vb, hlt]
      rw [e1]
      have hcv := byte_conv (w.alloc (.cells #[.int .u8 ((n : Nat) : Int)] 5)) w.heap.size n (cell_one_new _ _ _ 0 _ rfl)
      have hmod : (n : Int) % 256 = (n : Int) := by omega
      have hi : (n : Int) < 128 := by omega
      clear hf hn
      go_enter Tryz.func136, Tryz.ntmps136
      go_wp2
      go_ret
      exact ⟨rfl, (Below.refl _ _).alloc (Nat.le_refl _) _⟩
    · obtain ⟨f', rfl⟩ : ∃ f', f = f' + 1 := by
        cases f with
        | zero => exact absurd (by simpa using hn) hlt
        | succ f' => exact ⟨f', rfl⟩
      have H : Hid _ := fun W => rvint_at f' (n / 128) W (by omega) (by rw [Nat.pow_succ] at hn; omega)
      have e1 : vb (f' + 1) n = (n % 128 + 128) :: vb f' (n / 128) := by rw [vb, if_neg hlt]
      rw [e1, List.map_cons, strOfNums_cons]
      have HLN : Hid _ := vb_len f' (n / 128)
      have hsz : (strOfNums ((vb f' (n / 128)).map fun x => ((x : Nat) : Int))).size ≤ 5 := by
        rw [strOfNums_size, List.length_map]; have := HLN.out; omega
      obtain ⟨T, hT⟩ : ∃ T, strOfNums ((vb f' (n / 128)).map fun x => ((x : Nat) : Int)) = T := ⟨_, rfl⟩
      rw [hT] at H hsz ⊢
      have hn9 : n < 9223372036854775808 := Nat.lt_of_lt_of_le hn (Nat.le_trans (Nat.pow_le_pow_right (by omega) (show f' + 1 + 1 ≤ 6 by omega)) (by decide))
      obtain ⟨x, hx⟩ : ∃ x : Int, IntKind.u8.wrap (IntKind.i64.wrap ((n : Int).tmod 128 + 128)) = x := ⟨_, rfl⟩
      have HX : Hid (x = ((n % 128 + 128 : Nat) : Int)) := by
        show x = _
        rw [← hx]
        have : (n : Int).tmod 128 = ((n % 128 : Nat) : Int) := by rw [Int.tmod_eq_emod_of_nonneg (by omega)]; omega
        rw [this]
        have h1 : IntKind.i64.wrap (((n % 128 : Nat) : Int) + 128) = ((n % 128 + 128 : Nat) : Int) := by
          rw [IntKind.wrap_i64]; omega
        rw [h1, IntKind.wrap_u8]; omega
      have HQ : Hid (IntKind.i64.wrap ((n : Int) / 128) = ((n / 128 : Nat) : Int)) := by
        show IntKind.i64.wrap ((n : Int) / 128) = _
        rw [IntKind.wrap_i64]; omega
      have hS1 : (strOfNums [((n % 128 + 128 : Nat) : Int)]).size = 1 := strOfNums_size _
      have HCV : Hid _ := fun W g (h : W.cell? ⟨g, 0, none⟩ = some (.int .u8 x)) => byte_conv W g (n % 128 + 128) (by rw [← HX.out]; exact h)
      obtain ⟨S, hS⟩ : ∃ S, strOfNums [((n % 128 + 128 : Nat) : Int)] = S := ⟨_, rfl⟩
      rw [hS] at HCV hS1 ⊢
      have hcA := HCV.out (w.alloc (.cells #[.int .u8 x] 5)).drew w.heap.size (cell_one_new w _ _ 0 _ rfl)
      have hi : ¬ ((n : Int) < 128) := by omega
      clear hf hn hT e1 HLN HX hS
      go_enter Tryz.func136, Tryz.ntmps136
      go_wp2_with fail
      go_region_with (go_at_call 136; rw [HQ.out]; refine Calls.mono (H.out _) ?_; rintro e w' ⟨rfl, hb⟩; (first | (have hcB := HCV.out w' w.heap.size ((hb.cell (p := ⟨w.heap.size, 0, none⟩) (by simp)).trans (cell_one_new w _ _ 0 _ rfl))) | skip); (first | (have hbw : Below w.heap.size w w' := (((Below.refl _ _).alloc (Nat.le_refl _) _).drew).trans (hb.mono (by simp))) | (have hbw : Below w.heap.size w w' := ((Below.refl _ _).drew).trans (hb.mono (by simp)))); have hcC := HCV.out (w'.alloc (.cells #[.int .u8 x] 5)) w'.heap.size (cell_one_new w' _ _ 0 _ rfl))
      all_goals (go_wp2; go_ret; first | exact ⟨rfl, hbw⟩ | exact ⟨rfl, hbw.alloc hbw.size _⟩)
theorem rvint_any (n : Nat) (w : World) (hn : n < 4294967296) :
    Calls Tryz.prog 136 #[.int .i64 n] w fun e w' => e = .returned (.string (vint n)) ∧ Below w.heap.size w w' :=
  rvint_at 4 n w (Nat.le_refl _) (Nat.lt_of_lt_of_le hn (by decide))
theorem rleaf_any (s : ByteArray) (w : World) (hs : s.size ≤ 1000000000) :
    Calls Tryz.prog 88 #[.string s] w fun e w' => e = .returned (.string (⟨#[0]⟩ ++ s)) ∧ w' = w := by
  go_enter Tryz.func88, Tryz.ntmps88
  go_wp2
  go_ret
  exact ⟨rfl, rfl⟩
/-- the text that the root is the digest of, for a list of leaves in the memory or nil -/
theorem rooted_any (kt : Nat → Int) (l : ByteArray) (L : Nat → ByteArray) (n : Nat) (v : Value) (w : World) (hl : l.size ≤ 1000000000) (hG : Gr kt w) (hL : ∀ i, i < n → (L i).size ≤ 32)
    (hv : (v = .slice none 0 0 ∧ n = 0) ∨ ∃ b cap, v = .slice (some ⟨b, 0, none⟩) n cap ∧ n ≤ cap ∧ cap < 9223372036854775808 ∧ b < w.heap.size ∧ Co w b 0 n (tI L)) :
    Calls Tryz.prog 86 #[.string l, v] w fun e w' => e = .returned (.string (⟨#[2]⟩ ++ l ++ topT (ofT kt) n L)) ∧ Below w.heap.size w w' := by
  have H : Hid (Calls Tryz.prog 137 #[v] w fun e w' => e = .returned (.string (topT (ofT kt) n L)) ∧ Below w.heap.size w w') := by
    rcases hv with ⟨rfl, rfl⟩ | ⟨b, cap, rfl, h1, h2, h3, h4⟩
    · exact rtop_nil kt L w hG
    · exact rtop_any kt n L b 0 cap w h1 h2 hG h3 (fun i hi => Nat.le_trans (hL i hi) (by omega)) h4
  have q2 : (topT (ofT kt) n L).size ≤ 35184372088832 := topT_le (ofT kt) 35184372088832 (ofT_le kt) n L (fun i hi => Nat.le_trans (hL i hi) (by omega))
  have q1 : ((⟨#[2]⟩ : ByteArray) ++ l).size ≤ 1000000001 := by
    rw [ByteArray.size_append]
    have : (⟨#[2]⟩ : ByteArray).size = 1 := rfl
    omega
  clear hv hG hL
  go_enter Tryz.func86, Tryz.ntmps86
  go_wp2_with fail
  refine Calls.mono H.out ?_
  rintro e w1 ⟨rfl, hb1⟩
  go_wp2
  go_ret
  exact ⟨rfl, hb1⟩
end Go.Proofs.YtadinjaocnlglaaGreatDoor
namespace Go.Proofs.YtadinjaocnlglaaGreatDoor
open Go.RowKit
set_option maxRecDepth 100000
set_option maxHeartbeats 2000000
/-- the first n of some texts, as values -/
def txV (L : Nat → ByteArray) (n : Nat) : List Value := (List.range n).map fun i => .string (L i)
theorem txV_snoc (L : Nat → ByteArray) (n : Nat) : txV L (n + 1) = txV L n ++ [.string (L n)] := by simp [txV, List.range_succ]
theorem leaves_any (kt : Nat → Int) (L : Nat → ByteArray) (a : Option Addr) (n cap : Nat) (w : World) (hn : n ≤ 1000000) (hL : ∀ i, i < n → (L i).size ≤ 1000000) (hG : Gr kt w) (hI : Ins w a n L) :
    Calls Tryz.prog 193 #[.slice a n cap] w fun e w' => ∃ v, e = .returned v ∧ w'.ownsRow w.heap.size 9 1 v n (txV (fun i => leafT (ofT kt) (L i)) n) ∧ Below w.heap.size w w' := by
  have HI : Hid _ := hI
  have HL : Hid _ := hL
  have HG : Hid _ := hG
  clear hI hL hG
  obtain ⟨i0, hi9, hz0, hz1, hz2⟩ := info_parts info9
  go_enter Tryz.func193, Tryz.ntmps193
  go_wp2
  go_loopw [3, 4] (fun ov iv wr => ∃ i : Nat, i ≤ n ∧ iv = .int .i64 i ∧ Below w.heap.size w wr ∧ wr.ownsRow w.heap.size 9 1 ov i (txV (fun i => leafT (ofT kt) (L i)) i)) (fun _ iv _ => n - (intOf iv).toNat)
  case atStart => exact ⟨0, by omega, rfl, Below.refl _ _, World.ownsRow_nil _ _ _ _⟩
  case round =>
    obtain ⟨i, hi, rfl, hb, hR⟩ := hrel
    obtain ⟨va, vc, hv⟩ := own_shape hR
    subst hv
    by_cases hlt : i < n
    · obtain ⟨bb, ha, hbb, hc⟩ := HI.out i hlt
      subst ha
      have HB : Hid (Below w.heap.size w wr) := hb
      have HR : Hid (wr.ownsRow w.heap.size 9 1 (.slice va i vc) i (txV (fun i => leafT (ofT kt) (L i)) i)) := hR
      have c1 : wr.cell? ⟨bb, i, none⟩ = some (.string (L i)) := (hb.cell (p := ⟨bb, i, none⟩) hbb).trans hc
      have hLi := HL.out i hlt
      have H1 : Hid _ := rleaf_any (L i) wr (by omega)
      have H : Hid _ := rdigest_any kt (⟨#[0]⟩ ++ L i) wr (by rw [ByteArray.size_append]; have : (⟨#[0]⟩ : ByteArray).size = 1 := rfl; omega) (HG.out.below hb)
      clear hb hR
      go_wp2_with fail
      refine Calls.mono H1.out ?_
      rintro e w0 ⟨rfl, rfl⟩
      go_wp2_with fail
      refine Calls.mono H.out ?_
      rintro e w1 ⟨rfl, hb1⟩
      have HR1 : Hid (w1.ownsRow w.heap.size 9 1 (.slice va i vc) i (txV (fun i => leafT (ofT kt) (L i)) i)) := own_below HR.out hb1
      have HB1 : Hid (Below w.heap.size w w1) := HB.out.trans (hb1.mono HB.out.size)
      clear H H1 c1 hb1 HR HB
      obtain ⟨t, ht⟩ : ∃ t, ofT kt (⟨#[0]⟩ ++ L i) = t := ⟨_, rfl⟩
      have HLF : Hid (leafT (ofT kt) (L i) = t) := ht
      rw [ht]
      clear ht
      have hB' : w.heap.size ≤ (w1.alloc (Obj.cells #[Value.string t] 9)).heap.size := by have := HB1.out.size; simp; omega
      go_wp2_with (at_builtin; refine wpList_append_own_at _ rfl (.tmp 18) (.tmp 20) 42 rfl w.heap.size 9 i0 (.string ⟨#[]⟩) 1 16 Tryz.underlying42 hi9 hz0 hz1 hz2 rfl (by decide) _ i (txV (fun i => leafT (ofT kt) (L i)) i) rfl (HR1.out.alloc _) ⟨w1.heap.size, 0, none⟩ 1 1 [.string t] rfl rfl (cell_one_new _ _ _) (by intro u hu; simp at hu; subst hu; rfl) ?kb ?kc hB' ?_)
      case kb => unfold maxLen; omega
      case kc => omega
      intro v' w' hown' hgrow _ hblk
      have hbl' : Below w.heap.size w w' := (HB1.out.alloc HB1.out.size _).grown hgrow hB' (fun g hg => own_ge HR1.out g hg)
      have ho' : w'.ownsRow w.heap.size 9 1 v' (i + 1) (txV (fun i => leafT (ofT kt) (L i)) (i + 1)) := by rw [txV_snoc, HLF.out]; exact hown'
      clear hown' hgrow hblk HR1 HB1 hB'
      go_wp2
      go_roundw
      case rel => exact ⟨i + 1, by omega, by go_num, hbl', ho'⟩
      case measure => simp [intOf]; omega
    · have e : i = n := by omega
      subst e
      go_wp2
      go_ret
      exact ⟨_, rfl, hR, hb⟩
end Go.Proofs.YtadinjaocnlglaaGreatDoor
