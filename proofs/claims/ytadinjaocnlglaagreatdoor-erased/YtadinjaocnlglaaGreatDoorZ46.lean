/-
  The walk of vaultkeep's takes: a volume is left out.
  What vaultkeep.Erased keeps from loss to loss.
  The walk of vaultkeep's wrecked.
-/
import Derived.Test.YtadinjaocnlglaaGreatDoorZ45
import Derived.Test.YtadinjaocnlglaaGreatDoorZ42
import Derived.Test.YtadinjaocnlglaaGreatDoorZ44
namespace Go.Proofs.YtadinjaocnlglaaGreatDoor
open Go.RowKit
set_option maxRecDepth 100000
set_option maxHeartbeats 4000000
theorem takes2 {B wb gl go gc cc x gf cf gp cp K M C V ns nb gv cv : Nat} {pl : Nat → Nat} {lost out : Nat → Bool} {cut : Nat → Nat} {L : Nat → ByteArray} {w : World} (h : Wrk B wb gl go gc cc x gf cf gp cp K M C V ns nb pl lost out cut w) (bd : Bd K M C V ns nb pl) (hR : VRw w gv V L)
    (k N t : Int) (k0 : -9223372036854775808 ≤ k) (k1 : k ≤ 9223372036854775807) (n0 : -9223372036854775808 ≤ N) (n1 : N ≤ 9223372036854775807) (hk : pk k 3 = 2) :
    Calls Tryz.prog 33 #[.pointer (some ⟨wb, 0, none⟩), .slice (some ⟨gv, 0, none⟩) V cv, .agg #[.int .i64 k, .int .i64 N, .int .i64 t]] w (TkD B wb gl go gc cc x gf cf gp cp K M C V ns nb gv pl lost out cut L w) := by
  obtain ⟨w1, hw1⟩ : ∃ w1, w.alloc (.cells #[.int .i64 k, .int .i64 N, .int .i64 t] 82) = w1 := ⟨_, rfl⟩
  have hb1 : Below w.heap.size w w1 := by rw [← hw1]; exact (Below.refl _ _).alloc (Nat.le_refl _) _
  have hlr : w1.heap[w.heap.size]? = some (.cells #[.int .i64 k, .int .i64 N, .int .i64 t] 82 (0, 0)) := by rw [← hw1]; exact heap_alloc_new _ _
  have h1 := h.below hb1
  have r1 := hR.kept (hb1.block gv hR.lt)
  have l0 : w1.cell? ⟨w.heap.size, 0, none⟩ = some (.int .i64 k) := cell_of_row _ _ _ _ 82 _ hlr
  have l1 : w1.cell? ⟨w.heap.size, 1, none⟩ = some (.int .i64 N) := cell_of_row _ _ _ _ 82 _ hlr
  have l2 : w1.cell? ⟨w.heap.size, 2, none⟩ = some (.int .i64 t) := cell_of_row _ _ _ _ 82 _ hlr
  have b0 : w1.cell? ⟨wb, 0, none⟩ = some (.pointer (some ⟨x, 0, none⟩)) := cell_of_row _ _ _ _ 96 _ h1.row
  have b1 : w1.cell? ⟨wb, 1, none⟩ = some (.slice (some ⟨gl, 0, none⟩) nb nb) := cell_of_row _ _ _ _ 96 _ h1.row
  have b2 : w1.cell? ⟨wb, 2, none⟩ = some (.slice (some ⟨go, 0, none⟩) V V) := cell_of_row _ _ _ _ 96 _ h1.row
  have b3 : w1.cell? ⟨wb, 3, none⟩ = some (.slice (some ⟨gc, 0, none⟩) V cc) := cell_of_row _ _ _ _ 96 _ h1.row
  have c3 : w1.cell? ⟨x, 3, none⟩ = some (.int .i64 V) := cell_of_row _ _ _ _ 84 _ h1.pln.row
  have c6 : w1.cell? ⟨x, 6, none⟩ = some (.slice (some ⟨gf, 0, none⟩) (V + 1) cf) := cell_of_row _ _ _ _ 84 _ h1.pln.row
  have v1 := bd.v1
  have v5 := bd.v5
  have nb5 := bd.bnb
  have HPV : Hid (∀ W, Calls Tryz.prog 54 #[.int .i64 N, .int .i64 V] W fun e w' => e = .returned (.int .i64 (pk N V)) ∧ w' = W) := fun W => pick_at N V V W rfl (by omega) (by omega) n0 n1
  have HPK : Hid (∀ W, Calls Tryz.prog 54 #[.int .i64 k, .int .i64 3] W fun e w' => e = .returned (.int .i64 (pk k 3)) ∧ w' = W) := fun W => pick_at k 3 3 W rfl (by omega) (by omega) k0 k1
  have HW1 : Hid _ := h1
  have HR1 : Hid _ := r1
  have HB1 : Hid _ := hb1
  have HBD : Hid _ := bd
  have hpl := pk_lt N V (by omega)
  obtain ⟨u, hu⟩ : ∃ u, pk N V = u := ⟨_, rfl⟩
  rw [hu] at HPV hpl
  rw [hk] at HPK
  obtain ⟨lb, hlb⟩ : ∃ lb, w.heap.size = lb := ⟨_, rfl⟩
  rw [hlb] at l0 l1 l2
  have HLB : Hid _ := hlb
  have hA1 := rng_top (nb := nb) (v := u + 1) (by omega : 1 ≤ V) (by omega)
  have hA2 := rng_le (nb := nb) (V := V) (show u ≤ u + 1 by omega)
  have f0 := h1.pln.fst u (by omega)
  have f1 := h1.pln.fst (u + 1) (by omega)
  obtain ⟨A, hA⟩ : ∃ A, u * nb / V = A := ⟨_, rfl⟩
  obtain ⟨E, hE⟩ : ∃ E, (u + 1) * nb / V = E := ⟨_, rfl⟩
  rw [hA] at hA2 f0
  rw [hE] at hA1 hA2 f1
  have HA : Hid _ := hA
  have HE : Hid _ := hE
  obtain ⟨u1, hu1⟩ : ∃ u1, u + 1 = u1 := ⟨_, rfl⟩
  rw [hu1] at f1
  have HU1 : Hid _ := hu1
  have eu : (u : Int) + 1 = (u1 : Int) := by omega
  have hu2 : u1 < V + 1 := by omega
  clear h hR bd hb1 hlr h1 r1 hu hk k0 k1 n0 n1 hA hE hu1
  go_enter Tryz.func33, Tryz.ntmps33
  go_wp2_with fail
  clear hw1 hlb
  go_quiet (first | (go_at_call 54; exact Calls.quiet_of_same (HPV.out _)))
  go_wp2_with fail
  refine Calls.mono (HPK.out _) ?_
  rintro e w2 ⟨rfl, rfl⟩
  obtain ⟨W1, hW1⟩ : ∃ W1, w1.drewN nq = W1 := ⟨_, rfl⟩
  rw [hW1]
  replace l0 : W1.cell? ⟨lb, 0, none⟩ = some (.int .i64 k) := by rw [← hW1]; exact l0
  replace l1 : W1.cell? ⟨lb, 1, none⟩ = some (.int .i64 N) := by rw [← hW1]; exact l1
  replace l2 : W1.cell? ⟨lb, 2, none⟩ = some (.int .i64 t) := by rw [← hW1]; exact l2
  replace b0 : W1.cell? ⟨wb, 0, none⟩ = some (.pointer (some ⟨x, 0, none⟩)) := by rw [← hW1]; exact b0
  replace b1 : W1.cell? ⟨wb, 1, none⟩ = some (.slice (some ⟨gl, 0, none⟩) nb nb) := by rw [← hW1]; exact b1
  replace b2 : W1.cell? ⟨wb, 2, none⟩ = some (.slice (some ⟨go, 0, none⟩) V V) := by rw [← hW1]; exact b2
  replace b3 : W1.cell? ⟨wb, 3, none⟩ = some (.slice (some ⟨gc, 0, none⟩) V cc) := by rw [← hW1]; exact b3
  replace c3 : W1.cell? ⟨x, 3, none⟩ = some (.int .i64 V) := by rw [← hW1]; exact c3
  replace c6 : W1.cell? ⟨x, 6, none⟩ = some (.slice (some ⟨gf, 0, none⟩) (V + 1) cf) := by rw [← hW1]; exact c6
  replace f0 : W1.cell? ⟨gf, u, none⟩ = some (.int .i64 (A : Nat)) := by rw [← hW1]; exact f0
  replace f1 : W1.cell? ⟨gf, u1, none⟩ = some (.int .i64 (E : Nat)) := by rw [← hW1]; exact f1
  replace HW1 : Hid (Wrk B wb gl go gc cc x gf cf gp cp K M C V ns nb pl lost out cut W1) := by show Wrk _ _ _ _ _ _ _ _ _ _ _ _ _ _ _ _ _ _ _ _ _ _; rw [← hW1]; exact Wrk.drewN HW1.out nq
  replace HR1 : Hid (VRw W1 gv V L) := by show VRw _ _ _ _; rw [← hW1]; exact VRw.drewN HR1.out nq
  replace HB1 : Hid (Below w.heap.size w W1) := by show Below _ _ _; rw [← hW1]; exact below_dN HB1.out nq
  clear hW1
  have HWE : Hid (Wrk B wb gl go gc cc x gf cf gp cp K M C V ns nb pl lost out cut W1) := HW1.out
  have eG : IntKind.i64.wrap ((u1 : Nat) : Int) = (u1 : Int) := by rw [IntKind.wrap_i64]; omega
  go_wp2_with fail
  go_loopw [14, 15] (fun nv iv wr => ∃ i : Nat, i ≤ V ∧ nv = .int .i64 (cnt (fun j => !out j) i : Nat) ∧ iv = .int .i64 i ∧ wr = W1) (fun _ iv _ => V - (intOf iv).toNat)
  case atStart => exact ⟨0, by omega, rfl, rfl, rfl⟩
  case round =>
    obtain ⟨i, hi, rfl, rfl, hw⟩ := hrel
    subst hw
    have hcl := cnt_le (fun j => !out j) i
    have HST : Hid (cnt (fun j => !out j) (i + 1) = cnt (fun j => !out j) i + (if (!out i) = true then 1 else 0)) := rfl
    have HCN : Hid (∀ v, 1 < cnt (fun j => !out j) V → ∃ u, u < V ∧ u ≠ v ∧ out u = false) := fun v hv => by
      have e1 := cnt_upd (fun j => !out j) v V
      obtain ⟨u, hu, hu2, _⟩ := cnt_first (updB (fun j => !out j) v false) V (by omega)
      unfold updB at hu2
      by_cases e : u = v
      · rw [if_pos e] at hu2; cases hu2
      · rw [if_neg e] at hu2; exact ⟨u, hu, e, by simpa using hu2⟩
    by_cases hlt : i < V
    · have hin : (i : Int) < (V : Int) := by omega
      have o1 : wr.cell? ⟨go, i, none⟩ = some (.bool (out i)) := HWE.out.ou.cell i hlt
      obtain ⟨ci, hci⟩ : ∃ ci, cnt (fun j => !out j) i = ci := ⟨_, rfl⟩
      rw [hci] at hcl HST ⊢
      obtain ⟨oi, hoi⟩ : ∃ oi, out i = oi := ⟨_, rfl⟩
      rw [hoi] at o1 HST
      clear hci hoi
      cases oi
      · go_wp2_with fail
        go_roundw
        case rel => exact ⟨i + 1, by omega, by rw [HST.out]; simp, by go_num, by first | rfl | trivial⟩
        case measure => simp [intOf]; omega
      · go_wp2_with fail
        go_roundw
        case rel => exact ⟨i + 1, by omega, by rw [HST.out]; simp, by go_num, by first | rfl | trivial⟩
        case measure => simp [intOf]; omega
    · have hin : ¬ (i : Int) < (V : Int) := by omega
      obtain rfl : i = V := by omega
      obtain ⟨lf, hlf⟩ : ∃ lf, cnt (fun j => !out j) i = lf := ⟨_, rfl⟩
      rw [hlf] at hcl HCN ⊢
      clear hlf HST
      have HMY : Hid (∀ j, Calls Tryz.prog 76 #[.pointer (some ⟨wb, 0, none⟩), .int .i64 A, .int .i64 E] (wr.drewN j) fun e w' => e = .returned (.bool (mayB K M ns lost A E)) ∧ ∃ m, w' = (wr.drewN j).drewN m) := fun j => may_any (Wrk.drewN HWE.out j) HBD.out.k5 HBD.out.m3 (by omega) HBD.out.bns HBD.out.bns2 A E
      have HYE : Hid (mayB K M ns lost A E = true → May K M ns lost A E) := mayB_may
      obtain ⟨mb, hmb⟩ : ∃ mb, mayB K M ns lost A E = mb := ⟨_, rfl⟩
      rw [hmb] at HMY HYE
      clear hmb
      go_wp2_with fail
      go_quiet (first | (go_at_call 76; exact Calls.quiet_of (HMY.out _)))
      obtain ⟨W2, hW2⟩ : ∃ W2, wr.drewN nq = W2 := ⟨_, rfl⟩
      have HW2 : Hid (Wrk B wb gl go gc cc x gf cf gp cp K M C i ns nb pl lost out cut W2) := by show Wrk _ _ _ _ _ _ _ _ _ _ _ _ _ _ _ _ _ _ _ _ _ _; rw [← hW2]; exact Wrk.drewN HWE.out _
      have HR2 : Hid (VRw W2 gv i L) := by show VRw _ _ _ _; rw [← hW2]; exact VRw.drewN HR1.out _
      have HB2 : Hid (Below w.heap.size w W2) := by show Below _ _ _; rw [← hW2]; exact below_dN HB1.out _
      rw [hW2]
      clear hW2 l0 l1 l2 b0 b1 b2 b3 c3 c6 f0 f1 HW1 HR1 HB1 HWE HMY HPV HPK
      have b2 : W2.cell? ⟨wb, 2, none⟩ = some (.slice (some ⟨go, 0, none⟩) i i) := cell_of_row _ _ _ _ 96 _ HW2.out.row
      have o1 : W2.cell? ⟨go, u, none⟩ = some (.bool (out u)) := HW2.out.ou.cell u hpl
      have o2 := HW2.out.ou.free u
      obtain ⟨ou, hou⟩ : ∃ ou, out u = ou := ⟨_, rfl⟩
      rw [hou] at o1
      have HOU : Hid _ := hou
      clear hou
      cases mb
      · go_wp2_with fail
        go_ret
        exact TkD.none HW2.out HR2.out HB2.out
      · by_cases q : 1 < lf
        · have q' : (1 : Int) < (lf : Int) := by omega
          obtain ⟨W5, hW5⟩ : ∃ W5, W2.setCell ⟨go, u, none⟩ (.bool true) = W5 := ⟨_, rfl⟩
          have HW5 : Hid (Wrk B wb gl go gc cc x gf cf gp cp K M C i ns nb pl (mkB lost A A) (updB out u true) cut W5) := by show Wrk _ _ _ _ _ _ _ _ _ _ _ _ _ _ _ _ _ _ _ _ _ _; rw [← hW5, mkB_nil]; exact HW2.out.setOut u
          have HR5 : Hid (VRw W5 gv i L) := by
            show VRw _ _ _ _
            rw [← hW5]
            obtain ⟨cs, hcs, hv⟩ := HR2.out
            exact ⟨cs, (set_other _ _ _ _ _ (row_ne hcs HW2.out.ou (by decide))).trans hcs, hv⟩
          have HF5 : Hid (Fr (Q3 gl go gc) w W5) := by show Fr _ _ _; rw [← hW5]; exact (Fr.below HB2.out).set (.inl (.inr (.inl rfl))) _ _
          have c6 : W5.cell? ⟨x, 6, none⟩ = some (.slice (some ⟨gf, 0, none⟩) (i + 1) cf) := cell_of_row _ _ _ _ 84 _ HW5.out.pln.row
          have f0 : W5.cell? ⟨gf, u, none⟩ = some (.int .i64 (A : Nat)) := by have := HW5.out.pln.fst u (by omega); rw [HA.out] at this; exact this
          go_wp2_with fail
          clear hW5 b2 o1 o2 c6 f0 HW2 HR2 HB2
          go_loopw [17] (fun iv wr => ∃ j : Nat, A ≤ j ∧ j ≤ E ∧ iv = .int .i64 j ∧ Wrk B wb gl go gc cc x gf cf gp cp K M C i ns nb pl (mkB lost A j) (updB out u true) cut wr ∧ VRw wr gv i L ∧ Fr (Q3 gl go gc) w wr) (fun iv _ => E - (intOf iv).toNat)
          case atStart => exact ⟨A, Nat.le_refl _, hA2, rfl, HW5.out, HR5.out, HF5.out⟩
          case round =>
            obtain ⟨j, hj1, hj2, rfl, hw, hr, hf⟩ := hrel
            have HWr : Hid _ := hw
            have HRr : Hid (VRw _ gv i L) := hr
            have HFr : Hid _ := hf
            clear hw hr hf HW5 HR5 HF5
            have c6 := cell_of_row _ _ 6 _ 84 _ HWr.out.pln.row
            have f1 := HWr.out.pln.fst (u + 1) (by omega)
            rw [HE.out, HU1.out] at f1
            by_cases hlt2 : j < E
            · have hin2 : (j : Int) < (E : Int) := by omega
              have b1 := cell_of_row _ _ 1 _ 96 _ HWr.out.row
              have g1 := HWr.out.ls.cell j (by omega)
              have g2 := HWr.out.ls.free j
              have hib : (j : Int) < (nb : Int) := by omega
              go_wp2_with fail
              go_roundw
              case rel => exact ⟨j + 1, by omega, by omega, by go_num, by rw [← mkB_step hj1]; exact HWr.out.setLost j, (by
                obtain ⟨cs, hcs, hv⟩ := HRr.out
                exact ⟨cs, (set_other _ _ _ _ _ (row_ne hcs HWr.out.ls (by decide))).trans hcs, hv⟩), HFr.out.set (.inl (.inl rfl)) _ _⟩
              case measure => simp [intOf]; omega
            · have hin2 : ¬ (j : Int) < (E : Int) := by omega
              obtain rfl : j = E := by omega
              go_wp2_with fail
              go_ret
              exact ⟨_, _, cut, L, gv, cv, rfl, HWr.out, HRr.out, .inr (.inr (.inr ⟨u, hpl, by rw [HA.out, HE.out]; exact HYE.out trivial, .inl (HCN.out u q), by rw [HA.out, HE.out], rfl, rfl, rfl⟩)), HFr.out, .inl rfl⟩
        · have q' : ¬ (1 : Int) < (lf : Int) := by omega
          cases ou
          · go_wp2_with fail
            go_ret
            exact TkD.none HW2.out HR2.out HB2.out
          · obtain ⟨W5, hW5⟩ : ∃ W5, W2.setCell ⟨go, u, none⟩ (.bool true) = W5 := ⟨_, rfl⟩
            have HW5 : Hid (Wrk B wb gl go gc cc x gf cf gp cp K M C i ns nb pl (mkB lost A A) (updB out u true) cut W5) := by show Wrk _ _ _ _ _ _ _ _ _ _ _ _ _ _ _ _ _ _ _ _ _ _; rw [← hW5, mkB_nil]; exact HW2.out.setOut u
            have HR5 : Hid (VRw W5 gv i L) := by
              show VRw _ _ _ _
              rw [← hW5]
              obtain ⟨cs, hcs, hv⟩ := HR2.out
              exact ⟨cs, (set_other _ _ _ _ _ (row_ne hcs HW2.out.ou (by decide))).trans hcs, hv⟩
            have HF5 : Hid (Fr (Q3 gl go gc) w W5) := by show Fr _ _ _; rw [← hW5]; exact (Fr.below HB2.out).set (.inl (.inr (.inl rfl))) _ _
            have c6 : W5.cell? ⟨x, 6, none⟩ = some (.slice (some ⟨gf, 0, none⟩) (i + 1) cf) := cell_of_row _ _ _ _ 84 _ HW5.out.pln.row
            have f0 : W5.cell? ⟨gf, u, none⟩ = some (.int .i64 (A : Nat)) := by have := HW5.out.pln.fst u (by omega); rw [HA.out] at this; exact this
            go_wp2_with fail
            clear hW5 b2 o1 o2 c6 f0 HW2 HR2 HB2
            go_loopw [17] (fun iv wr => ∃ j : Nat, A ≤ j ∧ j ≤ E ∧ iv = .int .i64 j ∧ Wrk B wb gl go gc cc x gf cf gp cp K M C i ns nb pl (mkB lost A j) (updB out u true) cut wr ∧ VRw wr gv i L ∧ Fr (Q3 gl go gc) w wr) (fun iv _ => E - (intOf iv).toNat)
            case atStart => exact ⟨A, Nat.le_refl _, hA2, rfl, HW5.out, HR5.out, HF5.out⟩
            case round =>
              obtain ⟨j, hj1, hj2, rfl, hw, hr, hf⟩ := hrel
              have HWr : Hid _ := hw
              have HRr : Hid (VRw _ gv i L) := hr
              have HFr : Hid _ := hf
              clear hw hr hf HW5 HR5 HF5
              have c6 := cell_of_row _ _ 6 _ 84 _ HWr.out.pln.row
              have f1 := HWr.out.pln.fst (u + 1) (by omega)
              rw [HE.out, HU1.out] at f1
              by_cases hlt2 : j < E
              · have hin2 : (j : Int) < (E : Int) := by omega
                have b1 := cell_of_row _ _ 1 _ 96 _ HWr.out.row
                have g1 := HWr.out.ls.cell j (by omega)
                have g2 := HWr.out.ls.free j
                have hib : (j : Int) < (nb : Int) := by omega
                go_wp2_with fail
                go_roundw
                case rel => exact ⟨j + 1, by omega, by omega, by go_num, by rw [← mkB_step hj1]; exact HWr.out.setLost j, (by
                  obtain ⟨cs, hcs, hv⟩ := HRr.out
                  exact ⟨cs, (set_other _ _ _ _ _ (row_ne hcs HWr.out.ls (by decide))).trans hcs, hv⟩), HFr.out.set (.inl (.inl rfl)) _ _⟩
                case measure => simp [intOf]; omega
              · have hin2 : ¬ (j : Int) < (E : Int) := by omega
                obtain rfl : j = E := by omega
                go_wp2_with fail
                go_ret
                exact ⟨_, _, cut, L, gv, cv, rfl, HWr.out, HRr.out, .inr (.inr (.inr ⟨u, hpl, by rw [HA.out, HE.out]; exact HYE.out trivial, .inr HOU.out, by rw [HA.out, HE.out], rfl, rfl, rfl⟩)), HFr.out, .inl rfl⟩
end Go.Proofs.YtadinjaocnlglaaGreatDoor
namespace Go.Proofs.YtadinjaocnlglaaGreatDoor
open Go.RowKit
set_option maxRecDepth 100000
set_option maxHeartbeats 4000000
/-- a list of losses -/
def Lss (w : World) (a : Option Addr) (n : Nat) : Prop := ∀ i, i < n → ∃ b off k m t, a = some ⟨b, off, none⟩ ∧ b < w.heap.size ∧ w.cell? ⟨b, off + i * 3, none⟩ = some (.int .i64 k) ∧ w.cell? ⟨b, off + i * 3 + 1, none⟩ = some (.int .i64 m) ∧ w.cell? ⟨b, off + i * 3 + 2, none⟩ = some (.int .i64 t) ∧ (-9223372036854775808 ≤ k ∧ k ≤ 9223372036854775807) ∧ (-9223372036854775808 ≤ m ∧ m ≤ 9223372036854775807) ∧ (-9223372036854775808 ≤ t ∧ t ≤ 9223372036854775807)
theorem Lss.below {w w' : World} {a : Option Addr} {n : Nat} (h : Lss w a n) (hb : Below w.heap.size w w') : Lss w' a n := fun i hi => by
  obtain ⟨b, off, k, m, t, e, hlt, x0, x1, x2, hr⟩ := h i hi
  exact ⟨b, off, k, m, t, e, Nat.lt_of_lt_of_le hlt hb.size, (hb.cell (p := ⟨b, off + i * 3, none⟩) hlt).trans x0, (hb.cell (p := ⟨b, off + i * 3 + 1, none⟩) hlt).trans x1, (hb.cell (p := ⟨b, off + i * 3 + 2, none⟩) hlt).trans x2, hr⟩
theorem rw_vr {w : World} {g V : Nat} {L : Nat → ByteArray} (h : Rw w g V 9 (tX L)) : VRw w g V L :=
  ⟨_, h, fun v hv => (cell_of_row w g v _ 9 _ h).symm.trans (h.cell v hv)⟩
/-- what is left so far -/
def EL (hd Bk : Nat → ByteArray) (B wb gl go gc cc x gf cf gp cp K M C V ns nb g : Nat) (pl : Nat → Nat) (w0 : World) (lost out : Nat → Bool) (cut : Nat → Nat) (L R : Nat → ByteArray) (w : World) : Prop :=
  Wrk B wb gl go gc cc x gf cf gp cp K M C V ns nb pl lost out cut w ∧ VRw w g V L ∧ WIv K M C V nb ns Bk lost out cut R ∧ (∀ v, v < V → L v = hd v ++ R v) ∧ Fr (Q3 gl go gc) w0 w
theorem el_sz {hd Bk : Nat → ByteArray} {K M C V ns nb : Nat} {pl : Nat → Nat} {lost out : Nat → Bool} {cut : Nat → Nat} {L R : Nat → ByteArray} (hpl : ∀ v, v < V → pl v = (hd v).size) (hW : WIv K M C V nb ns Bk lost out cut R) (hL : ∀ v, v < V → L v = hd v ++ R v) : ∀ v, v < V → (L v).size = pl v + ((v + 1) * nb / V - v * nb / V) * C := fun v hv => by
  rw [hL v hv, ByteArray.size_append, hW.sz v hv, hpl v hv]
theorem takes_any {B wb gl go gc cc x gf cf gp cp K M C V ns nb gv cv : Nat} {pl : Nat → Nat} {lost out : Nat → Bool} {cut : Nat → Nat} {L : Nat → ByteArray} {w : World} (h : Wrk B wb gl go gc cc x gf cf gp cp K M C V ns nb pl lost out cut w) (bd : Bd K M C V ns nb pl) (hR : VRw w gv V L) (hsz : ∀ v, v < V → (L v).size = pl v + ((v + 1) * nb / V - v * nb / V) * C)
    (k N t : Int) (k0 : -9223372036854775808 ≤ k) (k1 : k ≤ 9223372036854775807) (n0 : -9223372036854775808 ≤ N) (n1 : N ≤ 9223372036854775807) (t0 : -9223372036854775808 ≤ t) (t1 : t ≤ 9223372036854775807) :
    Calls Tryz.prog 33 #[.pointer (some ⟨wb, 0, none⟩), .slice (some ⟨gv, 0, none⟩) V cv, .agg #[.int .i64 k, .int .i64 N, .int .i64 t]] w (TkD B wb gl go gc cc x gf cf gp cp K M C V ns nb gv pl lost out cut L w) := by
  have := pk_lt k 3 (by omega)
  rcases (by omega : pk k 3 = 0 ∨ pk k 3 = 1 ∨ pk k 3 = 2) with e | e | e
  · exact takes0 h bd hR hsz k N t k0 k1 n0 n1 e
  · exact takes1 h bd hR k N t k0 k1 n0 n1 t0 t1 e
  · exact takes2 h bd hR k N t k0 k1 n0 n1 e
theorem EL.takes {hd Bk : Nat → ByteArray} {B wb gl go gc cc x gf cf gp cp K M C V ns nb g : Nat} {pl : Nat → Nat} {w0 : World} {lost out : Nat → Bool} {cut : Nat → Nat} {L R : Nat → ByteArray} {w w' : World} {e : Ending} (hpl : ∀ v, v < V → pl v = (hd v).size) (h : EL hd Bk B wb gl go gc cc x gf cf gp cp K M C V ns nb g pl w0 lost out cut L R w) (ht : TkD B wb gl go gc cc x gf cf gp cp K M C V ns nb g pl lost out cut L w e w') :
    ∃ lost' out' cut' L' R' g' c', e = .returned (.slice (some ⟨g', 0, none⟩) V c') ∧ EL hd Bk B wb gl go gc cc x gf cf gp cp K M C V ns nb g' pl w0 lost' out' cut' L' R' w' := by
  obtain ⟨h1, h2, h3, h4, h5⟩ := h
  obtain ⟨lost', out', cut', L', g', c', he, a1, a2, a3, a4, _⟩ := ht
  obtain ⟨R', b1, b2⟩ := h3.tk h4 hpl a3
  exact ⟨lost', out', cut', L', R', g', c', he, a1, a2, b1, b2, h5.trans' a4⟩
section
variable {K M C V cnt : Nat} {es : List (ByteArray × Nat)} {s : ByteArray}
theorem VOk.hd_le (kt : Nat → Int) (h : VOk K M C V cnt es s) (v : Nat) : (hdE kt K M C V es s v).size ≤ 30000 := by
  have hnb : nbT K M C s = cnt := h.ct
  have e2 := ls_len h.lok
  have e3 := vint_size v
  have e4 := lv_size kt K M C s
  have e5 : (rtE kt K M C V es s).size = 32 := ofT_size _ _
  have e6 : (ofT kt (⟨#[3]⟩ ++ toE kt K M C V es s v)).size = 32 := ofT_size _ _
  have e7 : volM.size = 4 := rfl
  have e8 := h.c512
  rw [hnb] at e4
  unfold hdE
  rw [ByteArray.size_append, e6]
  unfold toE
  simp only [ByteArray.size_append]
  omega
end
end Go.Proofs.YtadinjaocnlglaaGreatDoor
namespace Go.Proofs.YtadinjaocnlglaaGreatDoor
open Go.RowKit
set_option maxRecDepth 100000
set_option maxHeartbeats 4000000
def WrD (w : World) (x gf cf gp cp K M C V ns nb : Nat) (pl : Nat → Nat) (e : Ending) (w' : World) : Prop := ∃ wb gl go gc cc, e = .returned (.pointer (some ⟨wb, 0, none⟩)) ∧ Wrk w.heap.size wb gl go gc cc x gf cf gp cp K M C V ns nb pl (fun _ => false) (fun _ => false) (fun v => (v + 1) * nb / V) w' ∧ Below w.heap.size w w'
theorem WN.drew {w0 : World} {wb gl go x V nb : Nat} {cv : Value} {l : List Nat} {w : World} (h : WN w0 wb gl go x V nb cv l w) : WN w0 wb gl go x V nb cv l w.drew := ⟨h.row, h.ls, h.ou, own_kept h.ct (fun _ _ => rfl), h.bel.drew, h.lo, h.ne⟩
theorem wn_rows (w : World) (n1 n2 : Nat) (o : Obj) : Rw (((w.alloc (.cells (madeCells #[.bool false] n1) 4)).alloc (.cells (madeCells #[.bool false] n2) 4)).alloc o) w.heap.size n1 4 (fun _ => .bool false) ∧ Rw (((w.alloc (.cells (madeCells #[.bool false] n1) 4)).alloc (.cells (madeCells #[.bool false] n2) 4)).alloc o) (w.heap.size + 1) n2 4 (fun _ => .bool false) ∧ (((w.alloc (.cells (madeCells #[.bool false] n1) 4)).alloc (.cells (madeCells #[.bool false] n2) 4)).alloc o).heap[w.heap.size + 2]? = some o ∧ Below w.heap.size w (((w.alloc (.cells (madeCells #[.bool false] n1) 4)).alloc (.cells (madeCells #[.bool false] n2) 4)).alloc o) := by
  refine ⟨((Rw.made w n1 4 (.bool false)).alloc _).alloc _, ?_, ?_, (((Below.refl _ _).alloc (Nat.le_refl _) _).alloc (by simp) _).alloc (by simp; omega) _⟩
  · have := (Rw.made (w.alloc (.cells (madeCells #[.bool false] n1) 4)) n2 4 (.bool false)).alloc o
    have e : (w.alloc (.cells (madeCells #[.bool false] n1) 4)).heap.size = w.heap.size + 1 := by simp
    rw [e] at this
    exact this
  · have := heap_alloc_new ((w.alloc (.cells (madeCells #[.bool false] n1) 4)).alloc (.cells (madeCells #[.bool false] n2) 4)) o
    have e : ((w.alloc (.cells (madeCells #[.bool false] n1) 4)).alloc (.cells (madeCells #[.bool false] n2) 4)).heap.size = w.heap.size + 2 := by simp
    rw [e] at this
    exact this
theorem wrecked_any (x gf cf gp cp K M C V ns nb : Nat) (pl : Nat → Nat) (w : World) (h : Pln x gf cf gp cp K M C V ns nb pl w) (hV1 : 1 ≤ V) (hV : V ≤ 5) (hnb : nb ≤ 512) :
    Calls Tryz.prog 32 #[.pointer (some ⟨x, 0, none⟩)] w (WrD w x gf cf gp cp K M C V ns nb pl) := by
  have c3 : w.cell? ⟨x, 3, none⟩ = some (.int .i64 V) := cell_of_row _ _ _ _ 84 _ h.row
  have c5 : w.cell? ⟨x, 5, none⟩ = some (.int .i64 nb) := cell_of_row _ _ _ _ 84 _ h.row
  have HP : Hid _ := h
  clear h
  have hmk := run_make_row' (P := Tryz.prog) 94 4 (.bool false) 1 Tryz.underlying94 info4 rfl .i64 .i64 nb (by omega) (by omega)
  have hmk2 := run_make_row' (P := Tryz.prog) 94 4 (.bool false) 1 Tryz.underlying94 info4 rfl .i64 .i64 V (by omega) (by omega)
  have hxl : x < w.heap.size := block_lt_of_cell c3
  have c5' : (w.alloc (.cells (madeCells #[.bool false] V) 4)).cell? ⟨x, 5, none⟩ = some (.int .i64 nb) := (World.cell?_alloc_lt _ _ _ hxl).trans c5
  have c3' : (w.alloc (.cells (madeCells #[.bool false] nb) 4)).cell? ⟨x, 3, none⟩ = some (.int .i64 V) := (World.cell?_alloc_lt _ _ _ hxl).trans c3
  go_enter Tryz.func32, Tryz.ntmps32
  go_wp2_with fail
  go_region
  · obtain ⟨W, hW⟩ : ∃ W, (((w.alloc (Obj.cells (madeCells #[Value.bool false] nb) 4)).alloc (Obj.cells (madeCells #[Value.bool false] V) 4)).alloc (Obj.cells #[Value.pointer (some ⟨x, 0, none⟩), Value.slice (some ⟨w.heap.size, 0, none⟩) nb nb, Value.slice (some ⟨w.heap.size + 1, 0, none⟩) V V, Value.slice none 0 0] 96)).drew = W := ⟨_, rfl⟩
    obtain ⟨r1, r2, r3, r4⟩ := wn_rows w nb V (Obj.cells #[Value.pointer (some ⟨x, 0, none⟩), Value.slice (some ⟨w.heap.size, 0, none⟩) nb nb, Value.slice (some ⟨w.heap.size + 1, 0, none⟩) V V, Value.slice none 0 0] 96)
    have HWN : Hid (WN w (w.heap.size + 2) (w.heap.size) (w.heap.size + 1) x V nb (.slice none 0 0) [] W) := by
      show WN _ _ _ _ _ _ _ _ _ _
      rw [← hW]
      exact WN.drew ⟨r3, r1, r2, ⟨rfl, .inl ⟨rfl, rfl⟩⟩, r4, ⟨by omega, by omega, by omega⟩, by omega⟩
    rw [hW]
    obtain ⟨wb, hwb⟩ : ∃ wb, w.heap.size + 2 = wb := ⟨_, rfl⟩
    obtain ⟨gl, hgl⟩ : ∃ gl, w.heap.size = gl := ⟨_, rfl⟩
    obtain ⟨go, hgo⟩ : ∃ go, w.heap.size + 1 = go := ⟨_, rfl⟩
    rw [hwb, hgo, hgl] at HWN
    rw [hwb, hgo, hgl]
    clear hW r1 r2 r3 r4 hwb hgl hgo c3 c5 c3' c5' hmk hmk2 hxl
    go_wp2_with fail
    go_loopw [4] (fun iv wr => ∃ (i : Nat) (cv : Value), i ≤ V ∧ iv = .int .i64 i ∧ WN w wb gl go x V nb cv ((List.range i).map (fun v => (v + 1) * nb / V)) wr) (fun iv _ => V - (intOf iv).toNat)
    case atStart => exact ⟨0, .slice none 0 0, by omega, rfl, HWN.out⟩
    case round =>
      obtain ⟨i, cv, hi, rfl, hWN⟩ := hrel
      have HW : Hid _ := hWN
      clear hWN HWN
      have HPr : Hid (Pln x gf cf gp cp K M C V ns nb pl wr) := HP.out.below (HP.out.lt hV1) HW.out.bel
      have c3 : wr.cell? ⟨x, 3, none⟩ = some (.int .i64 V) := cell_of_row _ _ _ _ 84 _ HPr.out.row
      by_cases hlt : i < V
      · have hin : (i : Int) < (V : Int) := by omega
        have c6 : wr.cell? ⟨x, 6, none⟩ = some (.slice (some ⟨gf, 0, none⟩) (V + 1) cf) := cell_of_row _ _ _ _ 84 _ HPr.out.row
        have f1 := HPr.out.fst (i + 1) (by omega)
        obtain ⟨Q, hQ⟩ : ∃ Q, (i + 1) * nb / V = Q := ⟨_, rfl⟩
        rw [hQ] at f1
        obtain ⟨I1, hI1⟩ : ∃ I1, i + 1 = I1 := ⟨_, rfl⟩
        rw [hI1] at f1
        have e5 : IntKind.i64.wrap ((i : Int) + 1) = (I1 : Int) := by rw [IntKind.wrap_i64]; omega
        have e6 : (I1 : Int) < (V : Int) + 1 := by omega
        have x3 : wr.cell? ⟨wb, 3, none⟩ = some cv := cell_of_row _ _ _ _ 96 _ HW.out.row
        obtain ⟨v', w2, hrun, hW2, hrow2⟩ := WN.app HW.out.drew Q (by simp; omega)
        have HRUN : Hid ((Builtin.append_ #[39, 39] 39 #[cv, .slice (some ⟨wr.heap.size, 0, none⟩) 1 1]).run Tryz.prog (wr.alloc (.cells #[.int .i64 Q] 3)).drew = .ok v' w2) := hrun
        have HW2 : Hid _ := hW2
        have x3' : w2.cell? ⟨wb, 3, none⟩ = some cv := cell_of_row _ _ _ _ 96 _ hrow2
        have f3' := frozen_of_row w2 wb 3 _ 96 hrow2
        have HQ : Hid (((List.range (i + 1)).map (fun v => (v + 1) * nb / V)) = (List.range i).map (fun v => (v + 1) * nb / V) ++ [Q]) := by show _ = _; rw [List.range_succ (n := i), List.map_append]; simp [hQ]
        have HI1 : Hid _ := hI1
        clear hQ hrun hW2 hrow2 hI1
        have ho1 := HW.out.ct
        rw [show ((List.range i).map (fun v => (v + 1) * nb / V)).length = i by simp] at ho1
        obtain ⟨fa, fc, hfv⟩ := own_shape ho1
        subst hfv
        have ho2 := HW2.out.ct
        rw [show ((List.range i).map (fun v => (v + 1) * nb / V) ++ [Q]).length = i + 1 by simp] at ho2
        obtain ⟨ga, gc', hgv⟩ := own_shape ho2
        subst hgv
        clear ho1 ho2
        have hxl : x < wr.heap.size := block_lt_of_cell c3
        have hwl : wb < wr.heap.size := block_lt_of_cell x3
        have hfl : gf < wr.heap.size := block_lt_of_cell f1
        have x3a : (wr.alloc (.cells #[.int .i64 Q] 3)).cell? ⟨wb, 3, none⟩ = some (.slice fa i fc) := (World.cell?_alloc_lt _ _ _ hwl).trans x3
        go_wp2_with fail
        go_region_law (refine step_app rfl (.tmp 32) (.tmp 41) 39 rfl _ _ _ (by simp [Act.eval]) (by simp [Act.eval]) _ HRUN.out ?_)
        all_goals
          go_wp2_with fail
          go_roundw
          case rel => exact ⟨i + 1, _, by omega, by have := HI1.out; go_num, by rw [HQ.out]; exact HW2.out⟩
          case measure => have := HI1.out; simp [intOf]; omega
      · have hin : ¬ (i : Int) < (V : Int) := by omega
        obtain rfl : i = V := by omega
        go_wp2_with fail
        go_ret
        obtain ⟨gc, cc, hk⟩ := WN.done HW.out hV1 HP.out
        exact ⟨wb, gl, go, gc, cc, rfl, hk, HW.out.bel⟩
  · obtain ⟨W, hW⟩ : ∃ W, (((w.alloc (Obj.cells (madeCells #[Value.bool false] V) 4)).alloc (Obj.cells (madeCells #[Value.bool false] nb) 4)).alloc (Obj.cells #[Value.pointer (some ⟨x, 0, none⟩), Value.slice (some ⟨w.heap.size + 1, 0, none⟩) nb nb, Value.slice (some ⟨w.heap.size, 0, none⟩) V V, Value.slice none 0 0] 96)).drew = W := ⟨_, rfl⟩
    obtain ⟨r1, r2, r3, r4⟩ := wn_rows w V nb (Obj.cells #[Value.pointer (some ⟨x, 0, none⟩), Value.slice (some ⟨w.heap.size + 1, 0, none⟩) nb nb, Value.slice (some ⟨w.heap.size, 0, none⟩) V V, Value.slice none 0 0] 96)
    have HWN : Hid (WN w (w.heap.size + 2) (w.heap.size + 1) (w.heap.size) x V nb (.slice none 0 0) [] W) := by
      show WN _ _ _ _ _ _ _ _ _ _
      rw [← hW]
      exact WN.drew ⟨r3, r2, r1, ⟨rfl, .inl ⟨rfl, rfl⟩⟩, r4, ⟨by omega, by omega, by omega⟩, by omega⟩
    rw [hW]
    obtain ⟨wb, hwb⟩ : ∃ wb, w.heap.size + 2 = wb := ⟨_, rfl⟩
    obtain ⟨gl, hgl⟩ : ∃ gl, w.heap.size + 1 = gl := ⟨_, rfl⟩
    obtain ⟨go, hgo⟩ : ∃ go, w.heap.size = go := ⟨_, rfl⟩
    rw [hwb, hgl, hgo] at HWN
    rw [hwb, hgl, hgo]
    clear hW r1 r2 r3 r4 hwb hgl hgo c3 c5 c3' c5' hmk hmk2 hxl
    go_wp2_with fail
    go_loopw [4] (fun iv wr => ∃ (i : Nat) (cv : Value), i ≤ V ∧ iv = .int .i64 i ∧ WN w wb gl go x V nb cv ((List.range i).map (fun v => (v + 1) * nb / V)) wr) (fun iv _ => V - (intOf iv).toNat)
    case atStart => exact ⟨0, .slice none 0 0, by omega, rfl, HWN.out⟩
    case round =>
      obtain ⟨i, cv, hi, rfl, hWN⟩ := hrel
      have HW : Hid _ := hWN
      clear hWN HWN
      have HPr : Hid (Pln x gf cf gp cp K M C V ns nb pl wr) := HP.out.below (HP.out.lt hV1) HW.out.bel
      have c3 : wr.cell? ⟨x, 3, none⟩ = some (.int .i64 V) := cell_of_row _ _ _ _ 84 _ HPr.out.row
      by_cases hlt : i < V
      · have hin : (i : Int) < (V : Int) := by omega
        have c6 : wr.cell? ⟨x, 6, none⟩ = some (.slice (some ⟨gf, 0, none⟩) (V + 1) cf) := cell_of_row _ _ _ _ 84 _ HPr.out.row
        have f1 := HPr.out.fst (i + 1) (by omega)
        obtain ⟨Q, hQ⟩ : ∃ Q, (i + 1) * nb / V = Q := ⟨_, rfl⟩
        rw [hQ] at f1
        obtain ⟨I1, hI1⟩ : ∃ I1, i + 1 = I1 := ⟨_, rfl⟩
        rw [hI1] at f1
        have e5 : IntKind.i64.wrap ((i : Int) + 1) = (I1 : Int) := by rw [IntKind.wrap_i64]; omega
        have e6 : (I1 : Int) < (V : Int) + 1 := by omega
        have x3 : wr.cell? ⟨wb, 3, none⟩ = some cv := cell_of_row _ _ _ _ 96 _ HW.out.row
        obtain ⟨v', w2, hrun, hW2, hrow2⟩ := WN.app HW.out.drew Q (by simp; omega)
        have HRUN : Hid ((Builtin.append_ #[39, 39] 39 #[cv, .slice (some ⟨wr.heap.size, 0, none⟩) 1 1]).run Tryz.prog (wr.alloc (.cells #[.int .i64 Q] 3)).drew = .ok v' w2) := hrun
        have HW2 : Hid _ := hW2
        have x3' : w2.cell? ⟨wb, 3, none⟩ = some cv := cell_of_row _ _ _ _ 96 _ hrow2
        have f3' := frozen_of_row w2 wb 3 _ 96 hrow2
        have HQ : Hid (((List.range (i + 1)).map (fun v => (v + 1) * nb / V)) = (List.range i).map (fun v => (v + 1) * nb / V) ++ [Q]) := by show _ = _; rw [List.range_succ (n := i), List.map_append]; simp [hQ]
        have HI1 : Hid _ := hI1
        clear hQ hrun hW2 hrow2 hI1
        have ho1 := HW.out.ct
        rw [show ((List.range i).map (fun v => (v + 1) * nb / V)).length = i by simp] at ho1
        obtain ⟨fa, fc, hfv⟩ := own_shape ho1
        subst hfv
        have ho2 := HW2.out.ct
        rw [show ((List.range i).map (fun v => (v + 1) * nb / V) ++ [Q]).length = i + 1 by simp] at ho2
        obtain ⟨ga, gc', hgv⟩ := own_shape ho2
        subst hgv
        clear ho1 ho2
        have hxl : x < wr.heap.size := block_lt_of_cell c3
        have hwl : wb < wr.heap.size := block_lt_of_cell x3
        have hfl : gf < wr.heap.size := block_lt_of_cell f1
        have x3a : (wr.alloc (.cells #[.int .i64 Q] 3)).cell? ⟨wb, 3, none⟩ = some (.slice fa i fc) := (World.cell?_alloc_lt _ _ _ hwl).trans x3
        go_wp2_with fail
        go_region_law (refine step_app rfl (.tmp 32) (.tmp 41) 39 rfl _ _ _ (by simp [Act.eval]) (by simp [Act.eval]) _ HRUN.out ?_)
        all_goals
          go_wp2_with fail
          go_roundw
          case rel => exact ⟨i + 1, _, by omega, by have := HI1.out; go_num, by rw [HQ.out]; exact HW2.out⟩
          case measure => have := HI1.out; simp [intOf]; omega
      · have hin : ¬ (i : Int) < (V : Int) := by omega
        obtain rfl : i = V := by omega
        go_wp2_with fail
        go_ret
        obtain ⟨gc, cc, hk⟩ := WN.done HW.out hV1 HP.out
        exact ⟨wb, gl, go, gc, cc, rfl, hk, HW.out.bel⟩
end Go.Proofs.YtadinjaocnlglaaGreatDoor
