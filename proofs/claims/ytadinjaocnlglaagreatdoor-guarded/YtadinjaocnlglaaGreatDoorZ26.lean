/-
  The document's Cursor: word.
  The walk of vaultref's Top.
  The walks of vaultref's varint, Leaf and Rooted.
  Plain: a number's varint, written and read.
  The document's Cursor: number.
-/
import Derived.Test.YtadinjaocnlglaaGreatDoorZ07
import Derived.Test.YtadinjaocnlglaaGreatDoorZ25
import Derived.Test.YtadinjaocnlglaaGreatDoorZ15
import Derived.Test.YtadinjaocnlglaaGreatDoorZ22
import Derived.Test.YtadinjaocnlglaaGreatDoorZ04
namespace Go.Proofs.YtadinjaocnlglaaGreatDoor
open Go.RowKit
set_option maxRecDepth 100000
set_option maxHeartbeats 4000000
theorem cword (c : Nat) (s : RS) (t : ByteArray) (w : World) (h : CR c s w) (ht : t.size ≤ 1000000000) :
    Calls Tryz.prog 129 #[.pointer (some ⟨c, 0, none⟩), .string t] w fun e w' => e = .returned (.tuple #[]) ∧ CDid c (s.word t) w w' := by
  have c0 : w.cell? ⟨c, 0, none⟩ = some (.string s.text) := cell_of_row _ _ _ _ 239 _ h.row
  have c1 : w.cell? ⟨c, 1, none⟩ = some (.int .i64 (atC s : Nat)) := cell_of_row _ _ _ _ 239 _ h.row
  have c2 : w.cell? ⟨c, 2, none⟩ = some (.bool s.wrong) := cell_of_row _ _ _ _ 239 _ h.row
  have HH : Hid (CR c s w) := h
  have hnt := h.nt
  have hsm := h.small
  clear h
  obtain ⟨text, field, next, wrong⟩ := s
  cases wrong
  · have e1 : atC ⟨text, field, next, false⟩ = next := rfl
    rw [e1] at c1
    have hnt' : next ≤ text.size := hnt
    have hsm' : text.size ≤ 1000000000 := hsm
    have u1 : IntKind.i64.wrap ((text.size : Int) - (next : Int)) = (text.size : Int) - (next : Int) := by rw [IntKind.wrap_i64]; omega
    clear hnt hsm
    have HRW : Hid (∀ j, (w.drewN j).heap[c]? = some (.cells (cuC ⟨text, field, next, false⟩) 239 (0, 0))) := fun j => HH.out.row
    have HFW : Hid (∀ j, Fr (fun j => j = c) w (w.drewN j)) := fun j => Fr.below (below_drewN (Below.refl _ _) _)
    by_cases hlt : text.size - next < t.size
    · have hlt' : (text.size : Int) - (next : Int) < (t.size : Int) := by omega
      have HE : Hid (RS.word ⟨text, field, next, false⟩ t = ⟨text, next, next, true⟩) := by
        show _ = _
        have hb : RS.bytes ⟨text, field, next, false⟩ t.size = (⟨text, next, next, true⟩, ⟨#[]⟩) := by
          unfold RS.bytes
          simp [hlt]
        unfold RS.word
        rw [hb]
        split
        · rfl
        · rfl
      go_enter Tryz.func129, Tryz.ntmps129
      go_wp2_with fail
      go_quiet (fail)
      obtain ⟨W, hW⟩ : ∃ W, w.drewN nq = W := ⟨_, rfl⟩
      have HR : Hid (W.heap[c]? = some (.cells (cuC ⟨text, field, next, false⟩) 239 (0, 0))) := by show _ = _; rw [← hW]; exact HRW.out nq
      have HF : Hid (Fr (fun j => j = c) w W) := by show Fr _ _ _; rw [← hW]; exact HFW.out nq
      rw [hW]
      clear hW c0 c1 c2
      have g2 : W.cell? ⟨c, 2, none⟩ = some (.bool false) := cell_of_row _ _ _ _ 239 _ HR.out
      have k2 := frozen_of_row W c 2 _ 239 HR.out
      go_wp2_with fail
      go_end0
      rw [HE.out]
      exact ⟨rfl, ⟨set_heap _ _ 2 _ _ _ _ HR.out, hnt', hsm'⟩, HF.out.set (.inl rfl) _ _⟩
    · have hlt' : ¬ (text.size : Int) - (next : Int) < (t.size : Int) := by omega
      have hb : RS.bytes ⟨text, field, next, false⟩ t.size = (⟨text, next, next + t.size, false⟩, text.extract next (next + t.size)) := by
        unfold RS.bytes
        simp [hlt]
      obtain ⟨m, hm⟩ : ∃ m, next + t.size = m := ⟨_, rfl⟩
      rw [hm] at hb
      have u2 : IntKind.i64.wrap (m : Int) = (m : Int) := by rw [IntKind.wrap_i64]; omega
      have em : (next : Int) + (t.size : Int) = (m : Int) := by omega
      have k1 : (0 : Int) ≤ (next : Int) := by omega
      have k2 : (next : Int) ≤ (m : Int) := by omega
      have k3 : (m : Int) ≤ (text.size : Int) := by omega
      have HM : Hid (m ≤ text.size) := by show m ≤ _; omega
      clear hm
      by_cases he : text.extract next m = t
      · have q1 : ((text.extract next m).toList == t.toList) = true := texts_eq he
        have HE : Hid (RS.word ⟨text, field, next, false⟩ t = ⟨text, next, m, false⟩) := by
          show _ = _
          unfold RS.word
          rw [hb, if_pos he]
        clear hb he
        go_enter Tryz.func129, Tryz.ntmps129
        go_wp2_with fail
        go_quiet (fail)
        obtain ⟨W, hW⟩ : ∃ W, w.drewN nq = W := ⟨_, rfl⟩
        have HR : Hid (W.heap[c]? = some (.cells (cuC ⟨text, field, next, false⟩) 239 (0, 0))) := by show _ = _; rw [← hW]; exact HRW.out nq
        have HF : Hid (Fr (fun j => j = c) w W) := by show Fr _ _ _; rw [← hW]; exact HFW.out nq
        rw [hW]
        try rw [q1]
        clear hW c0 c1 c2
        have g1 : W.cell? ⟨c, 1, none⟩ = some (.int .i64 next) := cell_of_row _ _ _ _ 239 _ HR.out
        have g2 : W.cell? ⟨c, 2, none⟩ = some (.bool false) := cell_of_row _ _ _ _ 239 _ HR.out
        have l1 := frozen_of_row W c 1 _ 239 HR.out
        go_wp2_with fail
        go_end0
        rw [HE.out]
        exact ⟨rfl, ⟨set_heap _ _ 1 _ _ _ _ HR.out, HM.out, hsm'⟩, HF.out.set (.inl rfl) _ _⟩
      · have q1 : ((text.extract next m).toList == t.toList) = false := texts_ne he
        have HE : Hid (RS.word ⟨text, field, next, false⟩ t = ⟨text, next, m, true⟩) := by
          show _ = _
          unfold RS.word
          rw [hb, if_neg he]
          rfl
        clear hb he
        go_enter Tryz.func129, Tryz.ntmps129
        go_wp2_with fail
        go_quiet (fail)
        obtain ⟨W, hW⟩ : ∃ W, w.drewN nq = W := ⟨_, rfl⟩
        have HR : Hid (W.heap[c]? = some (.cells (cuC ⟨text, field, next, false⟩) 239 (0, 0))) := by show _ = _; rw [← hW]; exact HRW.out nq
        have HF : Hid (Fr (fun j => j = c) w W) := by show Fr _ _ _; rw [← hW]; exact HFW.out nq
        rw [hW]
        try rw [q1]
        clear hW c0 c1 c2
        have g2 : W.cell? ⟨c, 2, none⟩ = some (.bool false) := cell_of_row _ _ _ _ 239 _ HR.out
        have l2 := frozen_of_row W c 2 _ 239 HR.out
        go_wp2_with fail
        go_end0
        rw [HE.out]
        exact ⟨rfl, ⟨set_heap _ _ 2 _ _ _ _ HR.out, HM.out, hsm'⟩, HF.out.set (.inl rfl) _ _⟩
  · have HE : Hid (RS.word ⟨text, field, next, true⟩ t = ⟨text, field, next, true⟩) := by
      show _ = _
      unfold RS.word
      split
      · rfl
      · rfl
    go_enter Tryz.func129, Tryz.ntmps129
    go_wp2_with fail
    go_quiet (fail)
    go_wp2_with fail
    go_end0
    rw [HE.out]
    exact ⟨rfl, ⟨HH.out.row, HH.out.nt, HH.out.small⟩, Fr.below (below_drewN (Below.refl _ _) _)⟩
end Go.Proofs.YtadinjaocnlglaaGreatDoor
namespace Go.Proofs.YtadinjaocnlglaaGreatDoor
open Go.RowKit
set_option maxRecDepth 100000
set_option maxHeartbeats 1000000
theorem half_any (n : Nat) (w : World) (h2 : 2 ≤ n) (h : n < 9223372036854775808) :
    Calls Tryz.prog 138 #[.int .i64 n] w fun e w' => e = .returned (.int .i64 (hf n : Nat)) ∧ w' = w := by
  have HU : Hid (∀ e : Nat, 2 ^ e < n → n ≤ 2 * 2 ^ e → 2 ^ e = hf n) := fun e h h' => hf_one e n h h'
  go_enter Tryz.func138, Tryz.ntmps138
  go_wp2
  go_loop [3] (fun pv => ∃ p e : Nat, p = 2 ^ e ∧ pv = .int .i64 p ∧ p < n) (fun pv => n - (intOf pv).toNat)
  case atStart => exact ⟨1, 0, rfl, rfl, by omega⟩
  case round =>
    obtain ⟨p, e, hpe, rfl, hpn⟩ := hrel
    have hp0 : 0 < p := by rw [hpe]; exact Nat.two_pow_pos _
    have HPE : Hid _ := hpe
    clear hpe
    by_cases hlt : (p : Int) < (n : Int) - (p : Int)
    · go_wp2
      go_round
      case rel => exact ⟨2 * p, e + 1, by rw [HPE.out, Nat.pow_succ]; omega, by go_num, by omega⟩
      case measure => simp [intOf]; omega
    · have hpm : p = hf n := by
        have := HU.out e (by rw [← HPE.out]; exact hpn) (by rw [← HPE.out]; omega)
        rw [HPE.out]; exact this
      go_wp2
      go_ret
      exact ⟨rfl, rfl⟩
theorem joint_any (a b : ByteArray) (w : World) (ha : a.size ≤ 35184372088832) (hb : b.size ≤ 35184372088832) :
    Calls Tryz.prog 139 #[.string a, .string b] w fun e w' => e = .returned (.string (⟨#[1]⟩ ++ a ++ b)) ∧ w' = w := by
  go_enter Tryz.func139, Tryz.ntmps139
  go_wp2
  go_ret
  exact ⟨rfl, rfl⟩
theorem len3 (a b : ByteArray) (ha : a.size ≤ 35184372088832) (hb : b.size ≤ 35184372088832) : ((⟨#[1]⟩ : ByteArray) ++ a ++ b).size ≤ 140737488351232 := by
  simp only [ByteArray.size_append]
  have : (⟨#[1]⟩ : ByteArray).size = 1 := rfl
  omega
theorem rtop_any (kt : Nat → Int) : ∀ (n : Nat) (L : Nat → ByteArray) (b o cap : Nat) (w : World), n ≤ cap → cap < 9223372036854775808 → Gr kt w → b < w.heap.size → (∀ i, i < n → (L i).size ≤ 35184372088832) → Co w b o n (tI L) →
    Calls Tryz.prog 137 #[.slice (some ⟨b, o, none⟩) n cap] w fun e w' => e = .returned (.string (topT (ofT kt) n L)) ∧ Below w.heap.size w w' := by
  intro n
  induction n using Nat.strongRecOn with
  | ind n ih =>
  intro L b o cap w hn hc hG hb hL hC
  by_cases h0 : n = 0
  · subst h0
    have H : Hid _ := rdigest_any kt ⟨#[]⟩ w (by decide) hG
    rw [topT_0]
    clear ih hC hL hG
    go_enter Tryz.func137, Tryz.ntmps137
    go_wp2_with fail
    refine Calls.mono H.out ?_
    rintro e w1 ⟨rfl, hB⟩
    go_wp2
    go_ret
    exact ⟨rfl, hB⟩
  · by_cases h1 : n = 1
    · subst h1
      rw [topT_1]
      have c0 : w.cell? ⟨b, o, none⟩ = some (.string (L 0)) := hC 0 (by omega)
      clear ih hC hL hG
      go_enter Tryz.func137, Tryz.ntmps137
      go_wp2
      go_ret
      exact ⟨rfl, Below.refl _ _⟩
    · have h2 : 2 ≤ n := by omega
      rw [topT_n _ n L h2]
      have e1 := hf_lt n h2
      have e2 := hf_pos n
      have HH : Hid _ := fun W => half_any n W h2 (by omega)
      have H1 : Hid _ := fun W => ih (hf n) e1 L b o cap W (by omega) hc
      have H2 : Hid _ := fun W => ih (n - hf n) (by omega) (fun j => L (hf n + j)) b (o + hf n) (cap - hf n) W (by omega) (by omega)
      have hT1 := topT_le (ofT kt) 35184372088832 (ofT_le kt) (hf n) L (fun i hi => hL i (by omega))
      have hT2 := topT_le (ofT kt) 35184372088832 (ofT_le kt) (n - hf n) (fun j => L (hf n + j)) (fun i hi => hL _ (by omega))
      have HL : Hid _ := hL
      have HC : Hid (Co w b o n (tI L)) := hC
      have HG : Hid _ := hG
      have hd0 : ((n : Int) == 0) = false := by simp; omega
      have hd1 : ((n : Int) == 1) = false := by simp; omega
      obtain ⟨A, hA⟩ : ∃ A, topT (ofT kt) (hf n) L = A := ⟨_, rfl⟩
      obtain ⟨B, hBB⟩ : ∃ B, topT (ofT kt) (n - hf n) (fun j => L (hf n + j)) = B := ⟨_, rfl⟩
      rw [hA] at hT1 H1 ⊢
      rw [hBB] at hT2 H2 ⊢
      obtain ⟨m, hm2⟩ : ∃ m, hf n = m := ⟨_, rfl⟩
      rw [hm2] at e1 e2 HH H1 H2
      clear ih hC hL hG hA hBB hm2
      go_enter Tryz.func137, Tryz.ntmps137
      go_wp2_with fail
      refine Calls.mono (HH.out _) ?_
      rintro e w1 ⟨rfl, rfl⟩
      go_wp2_with fail
      refine Calls.mono (H1.out _ HG.out hb (fun i hi => HL.out i (by omega)) (Co.lo HC.out (by omega))) ?_
      rintro e w2 ⟨rfl, hB2⟩
      have HB2 : Hid (Below w1.heap.size w1 w2) := hB2
      have hb2 : b < w2.heap.size := Nat.lt_of_lt_of_le hb hB2.size
      clear hB2
      go_wp2_with fail
      refine Calls.mono (H2.out _ (HG.out.below HB2.out) hb2 (fun i hi => HL.out _ (by omega)) ((Co.hi HC.out (by omega)).below HB2.out hb)) ?_
      rintro e w3 ⟨rfl, hB3⟩
      have HB3 : Hid (Below w1.heap.size w1 w3) := HB2.out.trans (hB3.mono HB2.out.size)
      clear hB3
      go_wp2_with fail
      refine (joint_any A B _ hT1 hT2).mono ?_
      rintro e w3' ⟨rfl, rfl⟩
      go_wp2_with fail
      refine (rdigest_any kt _ w3' (len3 A B hT1 hT2) (HG.out.below HB3.out)).mono ?_
      rintro e w4 ⟨rfl, hB4⟩
      have hB14 : Below w1.heap.size w1 w4 := HB3.out.trans (hB4.mono HB3.out.size)
      clear hB4
      go_wp2
      go_ret
      exact ⟨rfl, hB14⟩
theorem rtop_nil (kt : Nat → Int) (L : Nat → ByteArray) (w : World) (hG : Gr kt w) :
    Calls Tryz.prog 137 #[.slice none 0 0] w fun e w' => e = .returned (.string (topT (ofT kt) 0 L)) ∧ Below w.heap.size w w' := by
  have H : Hid _ := rdigest_any kt ⟨#[]⟩ w (by decide) hG
  rw [topT_0]
  clear hG
  go_enter Tryz.func137, Tryz.ntmps137
  go_wp2_with fail
  refine Calls.mono H.out ?_
  rintro e w1 ⟨rfl, hB⟩
  go_wp2
  go_ret
  exact ⟨rfl, hB⟩
end Go.Proofs.YtadinjaocnlglaaGreatDoor
namespace Go.Proofs.YtadinjaocnlglaaGreatDoor
open Go.RowKit
set_option maxRecDepth 100000
set_option maxHeartbeats 2000000
/-- one byte as a text -/
theorem byte_conv (W : World) (g x : Nat) (h : W.cell? ⟨g, 0, none⟩ = some (.int .u8 ((x : Nat) : Int))) : (convert 165 9 (.slice (some ⟨g, 0, none⟩) 1 1)).run Tryz.prog W = .ok (.string (strOfNums [((x : Nat) : Int)])) W :=
  run_convert_bytes_arg (P := Tryz.prog) W 165 5 Tryz.underlying165 Tryz.underlying5 g 0 1 1 [((x : Nat) : Int)] rfl (fun i hi => by
    have : i = 0 := by simp at hi; omega
    subst this; simpa using h) 9 Tryz.underlying9
theorem strOfNums_cons (x : Int) (l : List Int) : strOfNums (x :: l) = strOfNums [x] ++ strOfNums l := by
  simp [strOfNums]
  apply ByteArray.ext
  simp
theorem rvint_at : ∀ (f n : Nat) (w : World), f ≤ 4 → n < 128 ^ (f + 1) →
    Calls Tryz.prog 136 #[.int .i64 n] w fun e w' => e = .returned (.string (strOfNums ((vb f n).map fun x => ((x : Nat) : Int)))) ∧ Below w.heap.size w w'
  | f, n, w, hf, hn => by
    by_cases hlt : n < 128
    · have e1 : vb f n = [n] := by cases f <;> simp [vb, hlt]
      rw [e1]
      have hcv := byte_conv (w.alloc (.cells #[.int .u8 ((n : Nat) : Int)] 5)) w.heap.size n (cell_one_new _ _ _ 0 _ rfl)
      have hmod : (n : Int) % 256 = (n : Int) := by omega
      have hi : (n : Int) < 128 := by omega
      clear hf hn
      go_enter Tryz.func136, Tryz.ntmps136
      go_wp2
      go_ret
      exact ⟨rfl, (Below.refl _ _).alloc (Nat.le_refl _) _⟩
    · obtain ⟨f', rfl⟩ : ∃ f', f = f' + 1 := by
        cases f with
        | zero => exact absurd (by simpa using hn) hlt
        | succ f' => exact ⟨f', rfl⟩
      have H : Hid _ := fun W => rvint_at f' (n / 128) W (by omega) (by rw [Nat.pow_succ] at hn; omega)
      have e1 : vb (f' + 1) n = (n % 128 + 128) :: vb f' (n / 128) := by rw [vb, if_neg hlt]
      rw [e1, List.map_cons, strOfNums_cons]
      have HLN : Hid _ := vb_len f' (n / 128)
      have hsz : (strOfNums ((vb f' (n / 128)).map fun x => ((x : Nat) : Int))).size ≤ 5 := by
        rw [strOfNums_size, List.length_map]; have := HLN.out; omega
      obtain ⟨T, hT⟩ : ∃ T, strOfNums ((vb f' (n / 128)).map fun x => ((x : Nat) : Int)) = T := ⟨_, rfl⟩
      rw [hT] at H hsz ⊢
      have hn9 : n < 9223372036854775808 := Nat.lt_of_lt_of_le hn (Nat.le_trans (Nat.pow_le_pow_right (by omega) (show f' + 1 + 1 ≤ 6 by omega)) (by decide))
      obtain ⟨x, hx⟩ : ∃ x : Int, IntKind.u8.wrap (IntKind.i64.wrap ((n : Int).tmod 128 + 128)) = x := ⟨_, rfl⟩
      have HX : Hid (x = ((n % 128 + 128 : Nat) : Int)) := by
        show x = _
        rw [← hx]
        have : (n : Int).tmod 128 = ((n % 128 : Nat) : Int) := by rw [Int.tmod_eq_emod_of_nonneg (by omega)]; omega
        rw [this]
        have h1 : IntKind.i64.wrap (((n % 128 : Nat) : Int) + 128) = ((n % 128 + 128 : Nat) : Int) := by
          rw [IntKind.wrap_i64]; omega
        rw [h1, IntKind.wrap_u8]; omega
      have HQ : Hid (IntKind.i64.wrap ((n : Int) / 128) = ((n / 128 : Nat) : Int)) := by
        show IntKind.i64.wrap ((n : Int) / 128) = _
        rw [IntKind.wrap_i64]; omega
      have hS1 : (strOfNums [((n % 128 + 128 : Nat) : Int)]).size = 1 := strOfNums_size _
      have HCV : Hid _ := fun W g (h : W.cell? ⟨g, 0, none⟩ = some (.int .u8 x)) => byte_conv W g (n % 128 + 128) (by rw [← HX.out]; exact h)
      obtain ⟨S, hS⟩ : ∃ S, strOfNums [((n % 128 + 128 : Nat) : Int)] = S := ⟨_, rfl⟩
      rw [hS] at HCV hS1 ⊢
      have hcA := HCV.out (w.alloc (.cells #[.int .u8 x] 5)).drew w.heap.size (cell_one_new w _ _ 0 _ rfl)
      have hi : ¬ ((n : Int) < 128) := by omega
      clear hf hn hT e1 HLN HX hS
      go_enter Tryz.func136, Tryz.ntmps136
      go_wp2_with fail
      go_region_with (go_at_call 136; rw [HQ.out]; refine Calls.mono (H.out _) ?_; rintro e w' ⟨rfl, hb⟩; (first | (have hcB := HCV.out w' w.heap.size ((hb.cell (p := ⟨w.heap.size, 0, none⟩) (by simp)).trans (cell_one_new w _ _ 0 _ rfl))) | skip); (first | (have hbw : Below w.heap.size w w' := (((Below.refl _ _).alloc (Nat.le_refl _) _).drew).trans (hb.mono (by simp))) | (have hbw : Below w.heap.size w w' := ((Below.refl _ _).drew).trans (hb.mono (by simp)))); have hcC := HCV.out (w'.alloc (.cells #[.int .u8 x] 5)) w'.heap.size (cell_one_new w' _ _ 0 _ rfl))
      all_goals (go_wp2; go_ret; first | exact ⟨rfl, hbw⟩ | exact ⟨rfl, hbw.alloc hbw.size _⟩)
theorem rvint_any (n : Nat) (w : World) (hn : n < 4294967296) :
    Calls Tryz.prog 136 #[.int .i64 n] w fun e w' => e = .returned (.string (vint n)) ∧ Below w.heap.size w w' :=
  rvint_at 4 n w (Nat.le_refl _) (Nat.lt_of_lt_of_le hn (by decide))
theorem rleaf_any (s : ByteArray) (w : World) (hs : s.size ≤ 1000000000) :
    Calls Tryz.prog 88 #[.string s] w fun e w' => e = .returned (.string (⟨#[0]⟩ ++ s)) ∧ w' = w := by
  go_enter Tryz.func88, Tryz.ntmps88
  go_wp2
  go_ret
  exact ⟨rfl, rfl⟩
/-- the text that the root is the digest of, for a list of leaves in the memory or nil -/
theorem rooted_any (kt : Nat → Int) (l : ByteArray) (L : Nat → ByteArray) (n : Nat) (v : Value) (w : World) (hl : l.size ≤ 1000000000) (hG : Gr kt w) (hL : ∀ i, i < n → (L i).size ≤ 32)
    (hv : (v = .slice none 0 0 ∧ n = 0) ∨ ∃ b cap, v = .slice (some ⟨b, 0, none⟩) n cap ∧ n ≤ cap ∧ cap < 9223372036854775808 ∧ b < w.heap.size ∧ Co w b 0 n (tI L)) :
    Calls Tryz.prog 86 #[.string l, v] w fun e w' => e = .returned (.string (⟨#[2]⟩ ++ l ++ topT (ofT kt) n L)) ∧ Below w.heap.size w w' := by
  have H : Hid (Calls Tryz.prog 137 #[v] w fun e w' => e = .returned (.string (topT (ofT kt) n L)) ∧ Below w.heap.size w w') := by
    rcases hv with ⟨rfl, rfl⟩ | ⟨b, cap, rfl, h1, h2, h3, h4⟩
    · exact rtop_nil kt L w hG
    · exact rtop_any kt n L b 0 cap w h1 h2 hG h3 (fun i hi => Nat.le_trans (hL i hi) (by omega)) h4
  have q2 : (topT (ofT kt) n L).size ≤ 35184372088832 := topT_le (ofT kt) 35184372088832 (ofT_le kt) n L (fun i hi => Nat.le_trans (hL i hi) (by omega))
  have q1 : ((⟨#[2]⟩ : ByteArray) ++ l).size ≤ 1000000001 := by
    rw [ByteArray.size_append]
    have : (⟨#[2]⟩ : ByteArray).size = 1 := rfl
    omega
  clear hv hG hL
  go_enter Tryz.func86, Tryz.ntmps86
  go_wp2_with fail
  refine Calls.mono H.out ?_
  rintro e w1 ⟨rfl, hb1⟩
  go_wp2
  go_ret
  exact ⟨rfl, hb1⟩
end Go.Proofs.YtadinjaocnlglaaGreatDoor
namespace Go.Proofs.YtadinjaocnlglaaGreatDoor
open Go.RowKit
set_option maxRecDepth 100000
set_option maxHeartbeats 1000000
def b8 (l : List Nat) : List UInt8 := l.map UInt8.ofNat
/-- the bytes of a number's varint -/
def vi (n : Nat) : List UInt8 := b8 (vb 4 n)
theorem vint_list (n : Nat) : (vint n).data.toList = vi n := by
  unfold vint vi b8
  rw [strOfNums_data, List.map_map]
  apply List.map_congr_left
  intro a _
  simp
theorem drop_get {t : ByteArray} {i : Nat} (h : i < t.size) : t.data.toList.drop i = t[i] :: t.data.toList.drop (i + 1) := by
  rw [List.drop_eq_getElem_cons (by simpa using h)]
  rfl
theorem vb_small (f n : Nat) (h : n < 128) : vb f n = [n] := by
  cases f with
  | zero => rfl
  | succ f => rw [vb, if_pos h]
theorem byte_of {x : UInt8} {b : Nat} (h : x.toNat = b) : x = UInt8.ofNat b := by
  rw [← h]; simp
theorem vrF_dec (t : ByteArray) : ∀ (k i sum : Nat), (vrF t i sum (k + 1)).2 ≠ 0 → ∃ m, (vrF t i sum (k + 1)).1 = sum + m * 128 ^ i ∧ (0 < i → m ≠ 0) ∧ (vrF t i sum (k + 1)).2 = i + (vb k m).length ∧ t.data.toList.drop i = b8 (vb k m) ++ t.data.toList.drop (i + (vb k m).length)
  | k, i, sum, h => by
    rw [vrF] at h ⊢
    by_cases hi : i < t.size
    · rw [dif_pos hi] at h ⊢
      obtain ⟨b, hb⟩ : ∃ b, t[i].toNat = b := ⟨_, rfl⟩
      have hb2 : b < 256 := by rw [← hb]; exact t[i].toNat_lt
      have hd := drop_get hi
      rw [byte_of hb] at hd
      rw [hb] at h ⊢
      by_cases hp : 128 ≤ b
      · rw [if_pos hp] at h ⊢
        cases k with
        | zero => exact absurd rfl h
        | succ k =>
          obtain ⟨m, h1, h2, h3, h4⟩ := vrF_dec t k (i + 1) _ h
          have hm := h2 (by omega)
          have e : vb (k + 1) (b % 128 + 128 * m) = b :: vb k m := by
            rw [vb, if_neg (by omega)]
            have e1 : (b % 128 + 128 * m) % 128 + 128 = b := by omega
            have e2 : (b % 128 + 128 * m) / 128 = m := by omega
            rw [e1, e2]
          refine ⟨b % 128 + 128 * m, ?_, fun _ => by omega, ?_, ?_⟩
          · rw [h1, Nat.pow_succ, Nat.add_mul]
            have : m * (128 ^ i * 128) = 128 * m * 128 ^ i := by rw [Nat.mul_comm 128 m, Nat.mul_assoc, Nat.mul_comm (128 ^ i) 128]
            omega
          · rw [h3, e, List.length_cons]; omega
          · rw [e, hd, h4, List.length_cons]
            have : i + 1 + (vb k m).length = i + ((vb k m).length + 1) := by omega
            rw [this]
            rfl
      · rw [if_neg hp] at h ⊢
        by_cases hc : 4294967295 < sum + b % 128 * 128 ^ i ∨ (b = 0 ∧ 0 < i)
        · rw [if_pos hc] at h; exact absurd rfl h
        · rw [if_neg hc]
          have e : vb k b = [b] := vb_small k b (by omega)
          have hm : b % 128 = b := Nat.mod_eq_of_lt (by omega)
          refine ⟨b, by rw [hm], fun h0 e0 => hc (.inr ⟨e0, h0⟩), by rw [e]; rfl, by rw [e, hd]; rfl⟩
    · rw [dif_neg hi] at h; exact absurd rfl h
theorem vrF_enc (t : ByteArray) (rest : List UInt8) : ∀ (k i sum m : Nat), t.data.toList.drop i = b8 (vb k m) ++ rest → m < 128 ^ (k + 1) → (0 < i → m ≠ 0) → sum + m * 128 ^ i ≤ 4294967295 → vrF t i sum (k + 1) = (sum + m * 128 ^ i, i + (vb k m).length)
  | k, i, sum, m, hd, hm, h0, hs => by
    have hi : i < t.size := by
      rcases Nat.lt_or_ge i t.size with h | h
      · exact h
      · rw [List.drop_of_length_le (by simpa using h)] at hd
        have := congrArg List.length hd
        have hl : 0 < (vb k m).length := by
          cases k with
          | zero => simp [vb]
          | succ k => rw [vb]; split <;> simp
        simp [b8] at this
        omega
    have hd2 := drop_get hi
    rw [hd] at hd2
    rw [vrF, dif_pos hi]
    by_cases hp : m < 128
    · rw [vb_small k m hp] at hd2 ⊢
      have hb : t[i].toNat = m := by
        have := (List.cons.inj hd2).1
        rw [← this]
        simp; omega
      rw [hb, if_neg (by omega)]
      have e : m % 128 = m := Nat.mod_eq_of_lt hp
      rw [e, if_neg (by rintro (h | ⟨h, h'⟩); omega; exact h0 h' h)]
      rfl
    · cases k with
      | zero => exact absurd hm (by simpa using hp)
      | succ k =>
        have e : vb (k + 1) m = (m % 128 + 128) :: vb k (m / 128) := by rw [vb, if_neg hp]
        rw [e] at hd2 ⊢
        obtain ⟨hb, hr⟩ := List.cons.inj hd2
        have hb : t[i].toNat = m % 128 + 128 := by rw [← hb]; simp; omega
        rw [hb, if_pos (by omega)]
        have e1 : (m % 128 + 128) % 128 = m % 128 := by omega
        have e2 : m % 128 * 128 ^ i + m / 128 * 128 ^ (i + 1) = m * 128 ^ i := by
          rw [Nat.pow_succ, Nat.mul_comm (128 ^ i) 128, ← Nat.mul_assoc, ← Nat.add_mul]
          congr 1
          omega
        have hdv : m / 128 < 128 ^ (k + 1) := by
          rw [Nat.div_lt_iff_lt_mul (by omega), ← Nat.pow_succ]
          exact hm
        rw [e1, vrF_enc t rest k (i + 1) (sum + m % 128 * 128 ^ i) (m / 128) hr.symm hdv (fun _ => by omega) (by omega)]
        rw [Nat.add_assoc, e2, List.length_cons]
        congr 1
        omega
theorem vrd_dec {t : ByteArray} (h : (vrd t).2 ≠ 0) : t.data.toList = vi (vrd t).1 ++ t.data.toList.drop (vrd t).2 := by
  obtain ⟨m, h1, _, h3, h4⟩ := vrF_dec t 4 0 0 h
  have e : (vrd t).1 = m := by show (vrF t 0 0 (4 + 1)).1 = m; rw [h1]; simp
  have e2 : (vrd t).2 = (vb 4 m).length := by show (vrF t 0 0 (4 + 1)).2 = _; rw [h3]; simp
  rw [e, e2]
  simpa [vi] using h4
theorem vrd_enc {t : ByteArray} {n : Nat} {rest : List UInt8} (h : t.data.toList = vi n ++ rest) (hn : n ≤ 4294967295) : vrd t = (n, (vi n).length) := by
  have := vrF_enc t rest 4 0 0 n (by rw [List.drop_zero]; exact h) (by omega) (by omega) (by omega)
  show vrF t 0 0 (4 + 1) = _
  rw [this]
  simp [vi, b8]
theorem vi_pos (n : Nat) : 0 < (vi n).length := by
  unfold vi b8
  rw [List.length_map, vb]
  split <;> simp
end Go.Proofs.YtadinjaocnlglaaGreatDoor
namespace Go.Proofs.YtadinjaocnlglaaGreatDoor
open Go.RowKit
set_option maxRecDepth 100000
set_option maxHeartbeats 4000000
theorem vb_lenA : ∀ (j f q : Nat), j ≤ f → q < 128 ^ (j + 1) → (0 < j → 128 ^ j ≤ q) → (vb f q).length = j + 1
  | 0, f, q, _, h, _ => by rw [vb_small f q (by simpa using h)]; rfl
  | j + 1, f, q, hf, h, h0 => by
    obtain ⟨f', rfl⟩ : ∃ f', f = f' + 1 := ⟨f - 1, by omega⟩
    have h1 := h0 (by omega)
    have hp : 128 ^ (j + 1) = 128 * 128 ^ j := by rw [Nat.pow_succ, Nat.mul_comm]
    have hp2 : 128 ^ (j + 1 + 1) = 128 * 128 ^ (j + 1) := by rw [Nat.pow_succ, Nat.mul_comm]
    have hpos : 0 < 128 ^ j := Nat.pow_pos (by omega)
    rw [vb, if_neg (by omega), List.length_cons, vb_lenA j f' (q / 128) (by omega) (by omega) (fun _ => by omega)]
theorem vb_lenB : ∀ (j f q : Nat), 1 ≤ j → j ≤ f → q < 128 ^ j → (vb f q).length ≤ j
  | 0, _, _, h, _, _ => by omega
  | j + 1, f, q, _, hf, h => by
    obtain ⟨f', rfl⟩ : ∃ f', f = f' + 1 := ⟨f - 1, by omega⟩
    have hp : 128 ^ (j + 1) = 128 * 128 ^ j := by rw [Nat.pow_succ, Nat.mul_comm]
    rw [vb]
    split
    · simp
    · rename_i hq
      cases j with
      | zero => exact absurd (by simpa using h) hq
      | succ j =>
        rw [List.length_cons]
        have := vb_lenB (j + 1) f' (q / 128) (by omega) (by omega) (by omega)
        omega
theorem digit_len {sum b j : Nat} (hs : sum < 128 ^ j) (hb : b < 128) (hj : j ≤ 4) : (vint (sum + b * 128 ^ j)).size = j + 1 ↔ ¬ (b = 0 ∧ 0 < j) := by
  have e : (vint (sum + b * 128 ^ j)).size = (vb 4 (sum + b * 128 ^ j)).length := by
    unfold vint
    rw [strOfNums_size, List.length_map]
  rw [e]
  have hp2 : 128 ^ (j + 1) = 128 * 128 ^ j := by rw [Nat.pow_succ, Nat.mul_comm]
  have hm : (b + 1) * 128 ^ j ≤ 128 * 128 ^ j := Nat.mul_le_mul_right _ hb
  rw [Nat.add_mul, Nat.one_mul] at hm
  constructor
  · rintro h ⟨rfl, h0⟩
    have := vb_lenB j 4 (sum + 0 * 128 ^ j) (by omega) (by omega) (by omega)
    omega
  · intro h
    apply vb_lenA j 4 _ hj (by omega)
    intro h0
    have h1 : 1 ≤ b := by omega
    have := Nat.mul_le_mul_right (128 ^ j) h1
    omega
theorem CR.g0 {c field next : Nat} {text : ByteArray} {b : Bool} {W : World} (h : CR c ⟨text, field, next, b⟩ W) : W.cell? ⟨c, 0, none⟩ = some (.string text) := cell_of_row _ _ _ _ 239 _ h.row
theorem CR.g1 {c field next : Nat} {text : ByteArray} {W : World} (h : CR c ⟨text, field, next, false⟩ W) : W.cell? ⟨c, 1, none⟩ = some (.int .i64 next) := cell_of_row _ _ _ _ 239 _ h.row
theorem CR.g2 {c field next : Nat} {text : ByteArray} {b : Bool} {W : World} (h : CR c ⟨text, field, next, b⟩ W) : W.cell? ⟨c, 2, none⟩ = some (.bool b) := cell_of_row _ _ _ _ 239 _ h.row
theorem CR.fz {c k : Nat} {s : RS} {W : World} (h : CR c s W) : W.frozen? ⟨c, k, none⟩ = false := frozen_of_row _ _ _ _ 239 h.row
theorem CR.bad {c : Nat} {text : ByteArray} {field next : Nat} {w W : World} (h : CR c ⟨text, field, next, false⟩ W) (hf : Fr (fun j => j = c) w W) : CDid c ⟨text, next, next, true⟩ w (W.setCell ⟨c, 2, none⟩ (.bool true)) :=
  ⟨⟨set_heap _ _ 2 _ _ _ _ h.row, h.nt, h.small⟩, hf.set (.inl rfl) _ _⟩
theorem cnum (c : Nat) (s : RS) (lo : Nat) (hi : Int) (w : World) (h : CR c s w) (hh : hi ≤ 4294967295) :
    Calls Tryz.prog 131 #[.pointer (some ⟨c, 0, none⟩), .int .i64 lo, .int .i64 hi] w fun e w' => e = .returned (.int .i64 (s.num lo hi).2) ∧ CDid c (s.num lo hi).1 w w' := by
  have HH : Hid (CR c s w) := h
  have hnt := h.nt
  have hsm := h.small
  have c2 : w.cell? ⟨c, 2, none⟩ = some (.bool s.wrong) := cell_of_row _ _ _ _ 239 _ h.row
  clear h
  obtain ⟨text, field, next, wrong⟩ := s
  cases wrong
  · have hnt' : next ≤ text.size := hnt
    have hsm' : text.size ≤ 1000000000 := hsm
    clear hnt hsm
    have c1 := HH.out.g1
    obtain ⟨t, ht⟩ : ∃ t, text.extract next text.size = t := ⟨_, rfl⟩
    have hts : t.size = text.size - next := by rw [← ht, ByteArray.size_extract]; omega
    have HN : Hid (RS.num ⟨text, field, next, false⟩ lo hi = if (vrd t).2 = 0 ∨ (vrd t).1 < lo ∨ hi < ((vrd t).1 : Int) then (⟨text, next, next, true⟩, 0) else (⟨text, next, next + (vrd t).2, false⟩, (vrd t).1)) := by
      show _ = _
      unfold RS.num
      simp only [Bool.false_eq_true, if_false]
      rw [ht]
    have HG : Hid (∀ j (h1 : j < t.size) (h2 : next + j < text.size), t[j] = text[next + j]) := by
      intro j h1 h2
      subst ht
      simp [ByteArray.getElem_extract]
    have HT : Hid _ := hts
    clear ht hts
    go_enter Tryz.func131, Tryz.ntmps131
    go_wp2_with fail
    clear c1 c2
    go_loopw [7, 8, 9, 10, 11] (fun nv uv iv _ _ wr => ∃ j sum : Nat, j ≤ 5 ∧ next + j ≤ text.size ∧ nv = .int .i64 sum ∧ uv = .int .i64 (128 ^ j : Nat) ∧ iv = .int .i64 (next + j : Nat) ∧ sum < 128 ^ j ∧ vrF t j sum (5 - j) = vrd t ∧ Below w.heap.size w wr) (fun _ _ iv _ _ _ => next + 5 - (intOf iv).toNat)
    case atStart => exact ⟨0, 0, by omega, by omega, rfl, rfl, rfl, by decide, rfl, Below.refl _ _⟩
    case round =>
      obtain ⟨j, sum, hj, hjt, rfl, rfl, rfl, hs, hv, hb⟩ := hrel
      have hC := HH.out.below hb
      have g0 := hC.g0
      have g1 := hC.g1
      have HC : Hid (CR c ⟨text, field, next, false⟩ wr) := hC
      have HB : Hid (Below w.heap.size w wr) := hb
      clear hC hb
      have g2 := HC.out.g2
      have f1 := HC.out.fz (k := 1)
      have f2 := HC.out.fz (k := 2)
      by_cases hlt : j < 5 ∧ next + j < text.size
      · obtain ⟨hj5, hjt2⟩ := hlt
        have hjl : j < t.size := by rw [HT.out]; omega
        obtain ⟨b, hb⟩ : ∃ b : Nat, text[next + j].toNat = b := ⟨_, rfl⟩
        have hb2 : b < 256 := by rw [← hb]; exact text[next + j].toNat_lt
        have hk : 5 - j = (5 - (j + 1)) + 1 := by omega
        rw [hk, vrF, dif_pos hjl, HG.out j hjl hjt2, hb] at hv
        have hss := vsum sum b j hs
        have hp5 := pow5 (j + 1) (by omega)
        have hp4 := pow5 j (by omega)
        have HD : Hid (b < 128 → ((vint (sum + b % 128 * 128 ^ j)).size = j + 1 ↔ ¬ (b = 0 ∧ 0 < j))) := by
          intro h1
          rw [Nat.mod_eq_of_lt h1]
          exact digit_len hs h1 (by omega)
        obtain ⟨q, hq⟩ : ∃ q, sum + b % 128 * 128 ^ j = q := ⟨_, rfl⟩
        rw [hq] at hss hv HD
        obtain ⟨P, hP⟩ : ∃ P : Nat, 128 ^ j = P := ⟨_, rfl⟩
        have hP1 : 128 ^ (j + 1) = P * 128 := by rw [Nat.pow_succ, hP]
        rw [hP] at hq hs hp4 ⊢
        have HQ : Hid ((128 ^ (j + 1) : Nat) = P * 128) := hP1
        rw [hP1] at hss hp5
        obtain ⟨m, hm⟩ : ∃ m, next + j = m := ⟨_, rfl⟩
        have HM : Hid (next + j = m) := hm
        have k1 : ((m : Nat) : Int) < (text.size : Int) := by omega
        have k0 : (0 : Int) ≤ ((m : Nat) : Int) := by omega
        have k2 : ((m : Nat) : Int) < (next : Int) + 5 := by omega
        have u1 : IntKind.i64.wrap ((next : Int) + 5) = (next : Int) + 5 := by rw [IntKind.wrap_i64]; omega
        have hml : b % 128 * P ≤ 34359738368 := by omega
        obtain ⟨r, hr⟩ : ∃ r, b % 128 * P = r := ⟨_, rfl⟩
        have e2 : (b : Int) % 128 * (P : Int) = (r : Int) := by rw [← hr]; simp
        rw [hr] at hq hml
        have e3 : (sum : Int) + (r : Int) = (q : Int) := by omega
        have hmt : m < text.size := by omega
        have hbm : text[m].toNat = b := by subst hm; exact hb
        have HV : Hid _ := hv
        have HS : Hid _ := hss
        have HP5 : Hid _ := hp5
        have u2 : IntKind.i64.wrap (r : Int) = (r : Int) := by rw [IntKind.wrap_i64]; omega
        have u3 : IntKind.i64.wrap (q : Int) = (q : Int) := by rw [IntKind.wrap_i64]; omega
        have u4 : IntKind.i64.wrap ((P : Int) * 128) = (P : Int) * 128 := by rw [IntKind.wrap_i64]; omega
        rw [hm] at hjt ⊢
        by_cases hp : 128 ≤ b
        · have hp' : ¬ ((b : Int) < 128) := by omega
          clear hv hss hp5 hk hr hq hP hP1 hb hm hjl hjt2 hs
          go_wp2_with fail
          go_roundw
          case rel =>
            have hM := HM.out
            exact ⟨j + 1, q, by omega, by omega, rfl, by rw [HQ.out]; simp, by rw [show next + (j + 1) = m + 1 by omega]; go_num, by rw [HQ.out]; exact HS.out, by have := HV.out; rw [if_pos hp] at this; exact this, HB.out⟩
          case measure => simp [intOf]; omega
        · have hp' : (b : Int) < 128 := by omega
          have HRV : Hid (∀ W, Calls Tryz.prog 136 #[.int .i64 q] W fun e w' => e = .returned (.string (vint q)) ∧ Below W.heap.size W w') := fun W => rvint_at 4 q W (Nat.le_refl _) (by omega)
          have hvs := vint_size q
          have hdl := HD.out (by omega)
          have hv2 := hv
          rw [if_neg hp] at hv2
          have hM := hm
          by_cases hgood : lo ≤ q ∧ (q : Int) ≤ hi ∧ (vint q).size = j + 1
          · have hr0 : vrd t = (q, j + 1) := by rw [← hv2, if_neg (by rintro (h | h); omega; exact hdl.1 hgood.2.2 h)]
            have HE : Hid (RS.num ⟨text, field, next, false⟩ lo hi = (⟨text, next, m + 1, false⟩, q)) := by
              show _ = _
              rw [HN.out, hr0, if_neg (by show ¬ (j + 1 = 0 ∨ q < lo ∨ hi < (q : Int)); omega), show m + 1 = next + (j + 1) by omega]
            obtain ⟨i1, i2, i3⟩ := hgood
            have x1 : (q : Int) ≥ (lo : Int) := by omega
            have HMS : Hid (m + 1 ≤ text.size) := by show _ ≤ _; omega
            have x4 : ((((vint q).size : Nat) : Int) == ((m : Nat) : Int) + 1 - (next : Int)) = true := by rw [beq_iff_eq]; omega
            obtain ⟨vq, hvq⟩ : ∃ vq, vint q = vq := ⟨_, rfl⟩
            rw [hvq] at HRV hvs x4
            clear hv hss hp5 hk hr hq hP hP1 hb hm hjl hjt2 hs hdl hv2 hM HD hr0 i1 i3 hvq
            go_wp2_with fail
            go_at_call 136
            refine (HRV.out _).mono ?_
            rintro e w2 ⟨rfl, hb2⟩
            have hb3 := HB.out.trans (hb2.mono HB.out.size)
            have HC2 : Hid _ := HC.out.below hb2
            have HB2 : Hid (Below w.heap.size w w2) := hb3
            clear g0 g1 g2 f1 f2 hb2 hb3
            have g0 := HC2.out.g0
            have g1 := HC2.out.g1
            have g2 := HC2.out.g2
            have f1 := HC2.out.fz (k := 1)
            go_wp2_with fail
            go_ret
            rw [HE.out]
            exact ⟨rfl, ⟨set_heap _ _ 1 _ _ _ _ HC2.out.row, HMS.out, hsm'⟩, (Fr.below (S := fun j => j = c) HB2.out).set (.inl rfl) _ _⟩
          · have HE : Hid (RS.num ⟨text, field, next, false⟩ lo hi = (⟨text, next, next, true⟩, 0)) := by
              show _ = _
              rw [HN.out, ← hv2]
              split
              · rfl
              · rename_i hn
                rw [if_pos]
                show j + 1 = 0 ∨ q < lo ∨ hi < (q : Int)
                have hn2 : (vint q).size = j + 1 := hdl.2 (fun h => hn (.inr h))
                rcases Nat.lt_or_ge q lo with h | h
                · exact .inr (.inl h)
                · rcases Int.lt_or_le hi (q : Int) with h2 | h2
                  · exact .inr (.inr h2)
                  · exact absurd ⟨h, h2, hn2⟩ hgood
            obtain ⟨vq, hvq⟩ : ∃ vq, vint q = vq := ⟨_, rfl⟩
            rw [hvq] at HRV hvs hgood
            have hcase : ¬ ((q : Int) ≥ (lo : Int)) ∨ ((q : Int) ≥ (lo : Int) ∧ ¬ ((q : Int) ≤ hi)) ∨ ((q : Int) ≥ (lo : Int) ∧ (q : Int) ≤ hi ∧ (((vq.size : Nat) : Int) == ((m : Nat) : Int) + 1 - (next : Int)) = false) := by
              by_cases h1 : lo ≤ q
              · by_cases h2 : (q : Int) ≤ hi
                · refine .inr (.inr ⟨by omega, h2, ?_⟩)
                  rw [beq_eq_false_iff_ne]
                  intro h3
                  exact hgood ⟨h1, h2, by omega⟩
                · exact .inr (.inl ⟨by omega, h2⟩)
              · exact .inl (by omega)
            clear hv hss hp5 hk hr hq hP hP1 hb hm hjl hjt2 hs hdl hv2 hM HD hgood hvq
            go_wp2_with fail
            go_at_call 136
            refine (HRV.out _).mono ?_
            rintro e w2 ⟨rfl, hb2⟩
            have hb3 := HB.out.trans (hb2.mono HB.out.size)
            have HC2 : Hid _ := HC.out.below hb2
            have HB2 : Hid (Below w.heap.size w w2) := hb3
            clear g0 g1 g2 f1 f2 hb2 hb3
            have g0 := HC2.out.g0
            have g1 := HC2.out.g1
            have g2 := HC2.out.g2
            have f1 := HC2.out.fz (k := 1)
            have f2 := HC2.out.fz (k := 2)
            rcases hcase with x1 | ⟨x1, x2⟩ | ⟨x1, x2, x3⟩
            all_goals
              go_wp2_with fail
              go_ret
              rw [HE.out]
              exact ⟨rfl, HC2.out.bad (Fr.below HB2.out)⟩
      · have HR : Hid (vrd t = (0, 0)) := by
          show _ = _
          rw [← hv]
          by_cases e5 : j = 5
          · subst e5; rfl
          · have hk : 5 - j = (5 - (j + 1)) + 1 := by omega
            rw [hk, vrF, dif_neg (by rw [HT.out]; omega)]
        have HE : Hid (RS.num ⟨text, field, next, false⟩ lo hi = (⟨text, next, next, true⟩, 0)) := by
          show _ = _
          rw [HN.out, HR.out]
          simp
        clear hv
        by_cases hjt2 : next + j < text.size
        · have k1 : ((next + j : Nat) : Int) < (text.size : Int) := by omega
          have k2 : ¬ ((next + j : Nat) : Int) < (next : Int) + 5 := by omega
          have u1 : IntKind.i64.wrap ((next : Int) + 5) = (next : Int) + 5 := by rw [IntKind.wrap_i64]; omega
          obtain ⟨m, hm⟩ : ∃ m, next + j = m := ⟨_, rfl⟩
          rw [hm] at k1 k2 ⊢
          clear hm hlt hjt2 hjt hs HN HT HG HR
          go_wp2_with fail
          go_ret
          rw [HE.out]
          exact ⟨rfl, HC.out.bad (Fr.below HB.out)⟩
        · have k1 : ¬ ((next + j : Nat) : Int) < (text.size : Int) := by omega
          obtain ⟨m, hm⟩ : ∃ m, next + j = m := ⟨_, rfl⟩
          rw [hm] at k1 ⊢
          clear hm hlt hjt2 hjt hs HN HT HG HR
          go_wp2_with fail
          go_ret
          rw [HE.out]
          exact ⟨rfl, HC.out.bad (Fr.below HB.out)⟩
  · have HE : Hid (RS.num ⟨text, field, next, true⟩ lo hi = (⟨text, field, next, true⟩, 0)) := rfl
    go_enter Tryz.func131, Tryz.ntmps131
    go_wp2_with fail
    go_ret
    rw [HE.out]
    exact ⟨rfl, ⟨HH.out.row, HH.out.nt, HH.out.small⟩, Fr.refl _ _⟩
end Go.Proofs.YtadinjaocnlglaaGreatDoor
