/-
  The walk of vaultkeep's takes: a block is zeroed.
  The walk of vaultkeep's takes: a volume is cut.
-/
import Derived.Test.YtadinjaocnlglaaGreatDoorZ44
namespace Go.Proofs.YtadinjaocnlglaaGreatDoor
open Go.RowKit
set_option maxRecDepth 100000
set_option maxHeartbeats 4000000
/-- bounds -/
structure Bd (K M C V ns nb : Nat) (pl : Nat → Nat) : Prop where
  k1 : 1 ≤ K
  k5 : K ≤ 5
  m3 : M ≤ 3
  c1 : 1 ≤ C
  c8 : C ≤ 8
  v1 : 1 ≤ V
  v5 : V ≤ 5
  bnb : nb ≤ 512
  bns : ns * (K + M) = nb
  bns2 : ns ≤ 1000
  bpl : ∀ v, v < V → pl v ≤ 1000000
def TkD (B wb gl go gc cc x gf cf gp cp K M C V ns nb gv : Nat) (pl : Nat → Nat) (lost out : Nat → Bool) (cut : Nat → Nat) (L : Nat → ByteArray) (w : World) (e : Ending) (w' : World) : Prop :=
  ∃ lost' out' cut' L' g c, e = .returned (.slice (some ⟨g, 0, none⟩) V c) ∧ Wrk B wb gl go gc cc x gf cf gp cp K M C V ns nb pl lost' out' cut' w' ∧ VRw w' g V L' ∧ Tk K M C V ns nb pl lost out cut L lost' out' cut' L' ∧ Fr (Q3 gl go gc) w w' ∧ (g = gv ∨ w.heap.size ≤ g)
section
variable {B wb gl go gc cc x gf cf gp cp K M C V ns nb gv : Nat} {pl : Nat → Nat} {lost out : Nat → Bool} {cut : Nat → Nat} {L : Nat → ByteArray} {w w' : World}
theorem Wrk.drewN (h : Wrk B wb gl go gc cc x gf cf gp cp K M C V ns nb pl lost out cut w) (m : Nat) : Wrk B wb gl go gc cc x gf cf gp cp K M C V ns nb pl lost out cut (w.drewN m) := h.kept (fun _ _ => rfl)
theorem VRw.drewN (h : VRw w gv V L) (m : Nat) : VRw (w.drewN m) gv V L := h.kept rfl
/-- nothing is lost -/
theorem TkD.none {c : Nat} (h : Wrk B wb gl go gc cc x gf cf gp cp K M C V ns nb pl lost out cut w') (hR : VRw w' gv V L) (hb : Below w.heap.size w w') : TkD B wb gl go gc cc x gf cf gp cp K M C V ns nb gv pl lost out cut L w (.returned (.slice (some ⟨gv, 0, none⟩) V c)) w' :=
  ⟨lost, out, cut, L, gv, c, rfl, h, hR, .inl ⟨rfl, rfl, rfl, rfl⟩, Fr.below hb, .inl rfl⟩
end
theorem zer_size {C : Nat} (h : C ≤ 8) : (smT ⟨#[0, 0, 0, 0, 0, 0, 0, 0]⟩ C).size = C := by
  unfold smT
  have e : (⟨#[0, 0, 0, 0, 0, 0, 0, 0]⟩ : ByteArray).size = 8 := rfl
  split
  · rw [ByteArray.size_extract]; omega
  · omega
theorem below_dN {B : Nat} {w w' : World} (h : Below B w w') (m : Nat) : Below B w (w'.drewN m) := below_drewN h m
theorem takes0 {B wb gl go gc cc x gf cf gp cp K M C V ns nb gv cv : Nat} {pl : Nat → Nat} {lost out : Nat → Bool} {cut : Nat → Nat} {L : Nat → ByteArray} {w : World} (h : Wrk B wb gl go gc cc x gf cf gp cp K M C V ns nb pl lost out cut w) (bd : Bd K M C V ns nb pl) (hR : VRw w gv V L) (hsz : ∀ v, v < V → (L v).size = pl v + ((v + 1) * nb / V - v * nb / V) * C)
    (k N t : Int) (k0 : -9223372036854775808 ≤ k) (k1 : k ≤ 9223372036854775807) (n0 : -9223372036854775808 ≤ N) (n1 : N ≤ 9223372036854775807) (hk : pk k 3 = 0) :
    Calls Tryz.prog 33 #[.pointer (some ⟨wb, 0, none⟩), .slice (some ⟨gv, 0, none⟩) V cv, .agg #[.int .i64 k, .int .i64 N, .int .i64 t]] w (TkD B wb gl go gc cc x gf cf gp cp K M C V ns nb gv pl lost out cut L w) := by
  obtain ⟨w1, hw1⟩ : ∃ w1, w.alloc (.cells #[.int .i64 k, .int .i64 N, .int .i64 t] 82) = w1 := ⟨_, rfl⟩
  have hb1 : Below w.heap.size w w1 := by rw [← hw1]; exact (Below.refl _ _).alloc (Nat.le_refl _) _
  have hlr : w1.heap[w.heap.size]? = some (.cells #[.int .i64 k, .int .i64 N, .int .i64 t] 82 (0, 0)) := by rw [← hw1]; exact heap_alloc_new _ _
  have h1 := h.below hb1
  have r1 := hR.kept (hb1.block gv hR.lt)
  have l0 : w1.cell? ⟨w.heap.size, 0, none⟩ = some (.int .i64 k) := cell_of_row _ _ _ _ 82 _ hlr
  have l1 : w1.cell? ⟨w.heap.size, 1, none⟩ = some (.int .i64 N) := cell_of_row _ _ _ _ 82 _ hlr
  have b0 : w1.cell? ⟨wb, 0, none⟩ = some (.pointer (some ⟨x, 0, none⟩)) := cell_of_row _ _ _ _ 96 _ h1.row
  have b1 : w1.cell? ⟨wb, 1, none⟩ = some (.slice (some ⟨gl, 0, none⟩) nb nb) := cell_of_row _ _ _ _ 96 _ h1.row
  have b3 : w1.cell? ⟨wb, 3, none⟩ = some (.slice (some ⟨gc, 0, none⟩) V cc) := cell_of_row _ _ _ _ 96 _ h1.row
  have c2 : w1.cell? ⟨x, 2, none⟩ = some (.int .i64 C) := cell_of_row _ _ _ _ 84 _ h1.pln.row
  have c3 : w1.cell? ⟨x, 3, none⟩ = some (.int .i64 V) := cell_of_row _ _ _ _ 84 _ h1.pln.row
  have c5 : w1.cell? ⟨x, 5, none⟩ = some (.int .i64 nb) := cell_of_row _ _ _ _ 84 _ h1.pln.row
  have v1 := bd.v1
  have v5 := bd.v5
  have c8 := bd.c8
  have nb5 := bd.bnb
  have HPV : Hid (∀ W, Calls Tryz.prog 54 #[.int .i64 N, .int .i64 V] W fun e w' => e = .returned (.int .i64 (pk N V)) ∧ w' = W) := fun W => pick_at N V V W rfl (by omega) (by omega) n0 n1
  have HPK : Hid (∀ W, Calls Tryz.prog 54 #[.int .i64 k, .int .i64 3] W fun e w' => e = .returned (.int .i64 (pk k 3)) ∧ w' = W) := fun W => pick_at k 3 3 W rfl (by omega) (by omega) k0 k1
  have HW1 : Hid _ := h1
  have HR1 : Hid _ := r1
  have HB1 : Hid _ := hb1
  have HS : Hid _ := hsz
  have HBD : Hid _ := bd
  obtain ⟨pv, hpv⟩ : ∃ pv, pk N V = pv := ⟨_, rfl⟩
  rw [hpv] at HPV
  rw [hk] at HPK
  obtain ⟨lb, hlb⟩ : ∃ lb, w.heap.size = lb := ⟨_, rfl⟩
  rw [hlb] at l0 l1
  have HLB : Hid _ := hlb
  clear h hR hsz bd hb1 hlr h1 r1 hpv hk k0 k1
  go_enter Tryz.func33, Tryz.ntmps33
  go_wp2_with fail
  clear hw1 hlb
  go_quiet (first | (go_at_call 54; exact Calls.quiet_of_same (HPV.out _)))
  go_wp2_with fail
  refine Calls.mono (HPK.out _) ?_
  rintro e w2 ⟨rfl, rfl⟩
  obtain ⟨W1, hW1⟩ : ∃ W1, w1.drewN nq = W1 := ⟨_, rfl⟩
  rw [hW1]
  replace l0 : W1.cell? ⟨lb, 0, none⟩ = some (.int .i64 k) := by rw [← hW1]; exact l0
  replace l1 : W1.cell? ⟨lb, 1, none⟩ = some (.int .i64 N) := by rw [← hW1]; exact l1
  replace b0 : W1.cell? ⟨wb, 0, none⟩ = some (.pointer (some ⟨x, 0, none⟩)) := by rw [← hW1]; exact b0
  replace b1 : W1.cell? ⟨wb, 1, none⟩ = some (.slice (some ⟨gl, 0, none⟩) nb nb) := by rw [← hW1]; exact b1
  replace b3 : W1.cell? ⟨wb, 3, none⟩ = some (.slice (some ⟨gc, 0, none⟩) V cc) := by rw [← hW1]; exact b3
  replace c2 : W1.cell? ⟨x, 2, none⟩ = some (.int .i64 C) := by rw [← hW1]; exact c2
  replace c3 : W1.cell? ⟨x, 3, none⟩ = some (.int .i64 V) := by rw [← hW1]; exact c3
  replace c5 : W1.cell? ⟨x, 5, none⟩ = some (.int .i64 nb) := by rw [← hW1]; exact c5
  replace HW1 : Hid (Wrk B wb gl go gc cc x gf cf gp cp K M C V ns nb pl lost out cut W1) := by show Wrk _ _ _ _ _ _ _ _ _ _ _ _ _ _ _ _ _ _ _ _ _ _; rw [← hW1]; exact Wrk.drewN HW1.out nq
  replace HR1 : Hid (VRw W1 gv V L) := by show VRw _ _ _ _; rw [← hW1]; exact VRw.drewN HR1.out nq
  replace HB1 : Hid (Below w.heap.size w W1) := by show Below _ _ _; rw [← hW1]; exact below_dN HB1.out nq
  clear hW1
  by_cases hz : nb = 0
  · have hz1 : ((nb : Int) == 0) = true := by simp [hz]
    clear hz
    go_wp2_with fail
    go_ret
    exact TkD.none HW1.out HR1.out HB1.out
  · have hz1 : ((nb : Int) == 0) = false := by simp [hz]
    have hnb0 : 0 < nb := by omega
    clear hz
    have HPN : Hid (∀ W, Calls Tryz.prog 54 #[.int .i64 N, .int .i64 nb] W fun e w' => e = .returned (.int .i64 (pk N nb)) ∧ w' = W) := fun W => pick_at N nb nb W rfl hnb0 (by omega) n0 n1
    have hnl := pk_lt N nb hnb0
    obtain ⟨n, hn⟩ : ∃ n, pk N nb = n := ⟨_, rfl⟩
    rw [hn] at HPN hnl
    clear hn
    obtain ⟨u, hu, hu1, hu2⟩ := in_range nb V n V (by rw [Nat.mul_div_cancel_left _ (by omega)]; exact hnl)
    have HU : Hid (u * nb / V ≤ n ∧ n < (u + 1) * nb / V) := ⟨hu1, hu2⟩
    clear hu1 hu2
    have HMY : Hid (∀ j, Calls Tryz.prog 76 #[.pointer (some ⟨wb, 0, none⟩), .int .i64 n, .int .i64 ((n : Int) + 1)] (W1.drewN j) fun e w' => e = .returned (.bool (mayB K M ns lost n (n + 1))) ∧ ∃ m, w' = (W1.drewN j).drewN m) := fun j => may_any (HW1.out.drewN j) HBD.out.k5 HBD.out.m3 (by omega) HBD.out.bns HBD.out.bns2 n (n + 1)
    have HYE : Hid (mayB K M ns lost n (n + 1) = true → May K M ns lost n (n + 1)) := mayB_may
    obtain ⟨mb, hmb⟩ : ∃ mb, mayB K M ns lost n (n + 1) = mb := ⟨_, rfl⟩
    rw [hmb] at HMY HYE
    clear hmb
    go_wp2_with fail
    go_quiet (first | (go_at_call 54; exact Calls.quiet_of_same (HPN.out _)))
    go_wp2_with fail
    refine Calls.mono (HMY.out _) ?_
    rintro e w3 ⟨rfl, m1, hw3⟩
    rw [World.drewN_drewN] at hw3
    replace l0 : w3.cell? ⟨lb, 0, none⟩ = some (.int .i64 k) := by rw [hw3]; exact l0
    replace b1 : w3.cell? ⟨wb, 1, none⟩ = some (.slice (some ⟨gl, 0, none⟩) nb nb) := by rw [hw3]; exact b1
    replace b3 : w3.cell? ⟨wb, 3, none⟩ = some (.slice (some ⟨gc, 0, none⟩) V cc) := by rw [hw3]; exact b3
    replace c2 : w3.cell? ⟨x, 2, none⟩ = some (.int .i64 C) := by rw [hw3]; exact c2
    have HW3 : Hid (Wrk B wb gl go gc cc x gf cf gp cp K M C V ns nb pl lost out cut w3) := by show Wrk _ _ _ _ _ _ _ _ _ _ _ _ _ _ _ _ _ _ _ _ _ _; rw [hw3]; exact Wrk.drewN HW1.out _
    have HR3 : Hid (VRw w3 gv V L) := by show VRw _ _ _ _; rw [hw3]; exact VRw.drewN HR1.out _
    have HB3 : Hid (Below w.heap.size w w3) := by show Below _ _ _; rw [hw3]; exact below_dN HB1.out _
    clear hw3 l0 l1 b0 c3 c5 HW1 HR1 HB1 HMY HPN HPV HPK
    have HVO : Hid (∀ j, Calls Tryz.prog 77 #[.pointer (some ⟨x, 0, none⟩), .int .i64 n] (w3.drewN j) fun e w' => e = .returned (.int .i64 u) ∧ w' = w3.drewN j) := fun j => volumeOf_any x gf cf gp cp K M C V ns nb n u pl (w3.drewN j) (HW3.out.drewN j).pln (by omega) hu HU.out.1 HU.out.2
    have d1 := HW3.out.cell hu
    obtain ⟨ct, hct⟩ : ∃ ct, cut u = ct := ⟨_, rfl⟩
    rw [hct] at d1
    clear hct
    cases mb
    · go_wp2_with fail
      go_quiet (fail)
      go_wp2_with fail
      go_ret
      exact TkD.none (Wrk.drewN HW3.out _) (VRw.drewN HR3.out _) (below_dN HB3.out _)
    · by_cases hc : n < ct
      · have hc' : (n : Int) < (ct : Int) := by omega
        go_wp2_with fail
        go_quiet (first | (go_at_call 77; exact Calls.quiet_of_same (HVO.out _)))
        obtain ⟨W4, hW4⟩ : ∃ W4, w3.drewN nq = W4 := ⟨_, rfl⟩
        have HW4 : Hid (Wrk B wb gl go gc cc x gf cf gp cp K M C V ns nb pl lost out cut W4) := by show Wrk _ _ _ _ _ _ _ _ _ _ _ _ _ _ _ _ _ _ _ _ _ _; rw [← hW4]; exact Wrk.drewN HW3.out _
        have HR4 : Hid (VRw W4 gv V L) := by show VRw _ _ _ _; rw [← hW4]; exact VRw.drewN HR3.out _
        have HB4 : Hid (Below w.heap.size w W4) := by show Below _ _ _; rw [← hW4]; exact below_dN HB3.out _
        rw [hW4]
        clear hW4 b1 b3 c2 d1 HW3 HR3 HB3 HVO
        have b1 : W4.cell? ⟨wb, 1, none⟩ = some (.slice (some ⟨gl, 0, none⟩) nb nb) := cell_of_row _ _ _ _ 96 _ HW4.out.row
        have g1 : W4.cell? ⟨gl, n, none⟩ = some (.bool (lost n)) := HW4.out.ls.cell n hnl
        have g2 := HW4.out.ls.free n
        obtain ⟨W5, hW5⟩ : ∃ W5, W4.setCell ⟨gl, n, none⟩ (.bool true) = W5 := ⟨_, rfl⟩
        have HW5 : Hid (Wrk B wb gl go gc cc x gf cf gp cp K M C V ns nb pl (updB lost n true) out cut W5) := by show Wrk _ _ _ _ _ _ _ _ _ _ _ _ _ _ _ _ _ _ _ _ _ _; rw [← hW5]; exact HW4.out.setLost n
        have HR5 : Hid (VRw W5 gv V L) := by
          show VRw _ _ _ _
          rw [← hW5]
          obtain ⟨cs, hcs, hv⟩ := HR4.out
          exact ⟨cs, (set_other _ _ _ _ _ (row_ne hcs HW4.out.ls (by decide))).trans hcs, hv⟩
        have HF5 : Hid (Fr (Q3 gl go gc) w W5) := by show Fr _ _ _; rw [← hW5]; exact (Fr.below HB4.out).set (.inl (.inl rfl)) _ _
        have c2 : W5.cell? ⟨x, 2, none⟩ = some (.int .i64 C) := cell_of_row _ _ _ _ 84 _ HW5.out.pln.row
        have HSO : Hid (∀ W, Calls Tryz.prog 55 #[.string ⟨#[0, 0, 0, 0, 0, 0, 0, 0]⟩, .int .i64 C] W fun e w' => e = .returned (.string (smT ⟨#[0, 0, 0, 0, 0, 0, 0, 0]⟩ C)) ∧ w' = W) := fun W => some_any _ C C W rfl (by omega)
        have hzs := zer_size c8
        obtain ⟨z, hz⟩ : ∃ z, smT ⟨#[0, 0, 0, 0, 0, 0, 0, 0]⟩ C = z := ⟨_, rfl⟩
        rw [hz] at HSO hzs
        have HZS : Hid _ := hzs
        have HWT : Hid _ := with_any x gf cf gp cp K M C V ns nb n u gv cv pl L z W5 HW5.out.pln (by omega) (by omega) (by omega) hu HU.out.1 HU.out.2 hzs HR5.out (by
          have e1 := HS.out u hu
          have e2 := HU.out.1
          have e3 := HU.out.2
          rw [e1]
          generalize u * nb / V = A at e2 ⊢
          generalize (u + 1) * nb / V = E at e3 ⊢
          have e4 : (n - A + 1) * C ≤ (E - A) * C := Nat.mul_le_mul_right _ (by omega)
          rw [Nat.succ_mul] at e4
          omega) (by
          have e1 := HS.out u hu
          have e2 := HBD.out.bpl u hu
          have e3 := rng_top (nb := nb) (v := u + 1) (by omega : 1 ≤ V) (by omega)
          rw [e1]
          generalize u * nb / V = A
          generalize (u + 1) * nb / V = E at e3 ⊢
          have e4 : (E - A) * C ≤ 1000 * 8 := Nat.mul_le_mul (by omega) c8
          omega)
        clear hz hzs
        go_wp2_with fail
        refine Calls.mono (HSO.out _) ?_
        rintro e w6 ⟨rfl, rfl⟩
        clear hW5
        go_wp2_with fail
        refine Calls.mono HWT.out ?_
        rintro e w7 ⟨g, c, rfl, hR7, hb7, hg7⟩
        have HR7 : Hid _ := hR7
        have HB7 : Hid _ := hb7
        clear hR7 hb7
        go_wp2_with fail
        go_ret
        refine ⟨_, out, cut, _, g, c, rfl, HW5.out.below HB7.out, HR7.out, .inr (.inl ⟨n, u, z, hu, HU.out.1, HU.out.2, HZS.out, HYE.out trivial, (by have := mkB_step (lost := lost) (Nat.le_refl n); rw [mkB_nil] at this; exact this), rfl, rfl, rfl⟩), HF5.out.thenBelow HB7.out, .inr (Nat.le_trans HF5.out.size hg7)⟩
      · have hc' : ¬ (n : Int) < (ct : Int) := by omega
        go_wp2_with fail
        go_quiet (first | (go_at_call 77; exact Calls.quiet_of_same (HVO.out _)))
        go_wp2_with fail
        go_ret
        exact TkD.none (Wrk.drewN HW3.out _) (VRw.drewN HR3.out _) (below_dN HB3.out _)
end Go.Proofs.YtadinjaocnlglaaGreatDoor
namespace Go.Proofs.YtadinjaocnlglaaGreatDoor
open Go.RowKit
set_option maxRecDepth 100000
set_option maxHeartbeats 4000000
theorem takes1 {B wb gl go gc cc x gf cf gp cp K M C V ns nb gv cv : Nat} {pl : Nat → Nat} {lost out : Nat → Bool} {cut : Nat → Nat} {L : Nat → ByteArray} {w : World} (h : Wrk B wb gl go gc cc x gf cf gp cp K M C V ns nb pl lost out cut w) (bd : Bd K M C V ns nb pl) (hR : VRw w gv V L)
    (k N t : Int) (k0 : -9223372036854775808 ≤ k) (k1 : k ≤ 9223372036854775807) (n0 : -9223372036854775808 ≤ N) (n1 : N ≤ 9223372036854775807) (t0 : -9223372036854775808 ≤ t) (t1 : t ≤ 9223372036854775807) (hk : pk k 3 = 1) :
    Calls Tryz.prog 33 #[.pointer (some ⟨wb, 0, none⟩), .slice (some ⟨gv, 0, none⟩) V cv, .agg #[.int .i64 k, .int .i64 N, .int .i64 t]] w (TkD B wb gl go gc cc x gf cf gp cp K M C V ns nb gv pl lost out cut L w) := by
  obtain ⟨w1, hw1⟩ : ∃ w1, w.alloc (.cells #[.int .i64 k, .int .i64 N, .int .i64 t] 82) = w1 := ⟨_, rfl⟩
  have hb1 : Below w.heap.size w w1 := by rw [← hw1]; exact (Below.refl _ _).alloc (Nat.le_refl _) _
  have hlr : w1.heap[w.heap.size]? = some (.cells #[.int .i64 k, .int .i64 N, .int .i64 t] 82 (0, 0)) := by rw [← hw1]; exact heap_alloc_new _ _
  have h1 := h.below hb1
  have r1 := hR.kept (hb1.block gv hR.lt)
  have l0 : w1.cell? ⟨w.heap.size, 0, none⟩ = some (.int .i64 k) := cell_of_row _ _ _ _ 82 _ hlr
  have l1 : w1.cell? ⟨w.heap.size, 1, none⟩ = some (.int .i64 N) := cell_of_row _ _ _ _ 82 _ hlr
  have l2 : w1.cell? ⟨w.heap.size, 2, none⟩ = some (.int .i64 t) := cell_of_row _ _ _ _ 82 _ hlr
  have b0 : w1.cell? ⟨wb, 0, none⟩ = some (.pointer (some ⟨x, 0, none⟩)) := cell_of_row _ _ _ _ 96 _ h1.row
  have b1 : w1.cell? ⟨wb, 1, none⟩ = some (.slice (some ⟨gl, 0, none⟩) nb nb) := cell_of_row _ _ _ _ 96 _ h1.row
  have b2 : w1.cell? ⟨wb, 2, none⟩ = some (.slice (some ⟨go, 0, none⟩) V V) := cell_of_row _ _ _ _ 96 _ h1.row
  have b3 : w1.cell? ⟨wb, 3, none⟩ = some (.slice (some ⟨gc, 0, none⟩) V cc) := cell_of_row _ _ _ _ 96 _ h1.row
  have c3 : w1.cell? ⟨x, 3, none⟩ = some (.int .i64 V) := cell_of_row _ _ _ _ 84 _ h1.pln.row
  have c6 : w1.cell? ⟨x, 6, none⟩ = some (.slice (some ⟨gf, 0, none⟩) (V + 1) cf) := cell_of_row _ _ _ _ 84 _ h1.pln.row
  have v1 := bd.v1
  have v5 := bd.v5
  have nb5 := bd.bnb
  have HPV : Hid (∀ W, Calls Tryz.prog 54 #[.int .i64 N, .int .i64 V] W fun e w' => e = .returned (.int .i64 (pk N V)) ∧ w' = W) := fun W => pick_at N V V W rfl (by omega) (by omega) n0 n1
  have HPK : Hid (∀ W, Calls Tryz.prog 54 #[.int .i64 k, .int .i64 3] W fun e w' => e = .returned (.int .i64 (pk k 3)) ∧ w' = W) := fun W => pick_at k 3 3 W rfl (by omega) (by omega) k0 k1
  have HW1 : Hid _ := h1
  have HR1 : Hid _ := r1
  have HB1 : Hid _ := hb1
  have HBD : Hid _ := bd
  have hpl := pk_lt N V (by omega)
  obtain ⟨u, hu⟩ : ∃ u, pk N V = u := ⟨_, rfl⟩
  rw [hu] at HPV hpl
  rw [hk] at HPK
  obtain ⟨lb, hlb⟩ : ∃ lb, w.heap.size = lb := ⟨_, rfl⟩
  rw [hlb] at l0 l1 l2
  have HLB : Hid _ := hlb
  have hA1 := rng_top (nb := nb) (v := u + 1) (by omega : 1 ≤ V) (by omega)
  have hA2 := rng_le (nb := nb) (V := V) (show u ≤ u + 1 by omega)
  have f0 := h1.pln.fst u (by omega)
  have f1 := h1.pln.fst (u + 1) (by omega)
  obtain ⟨A, hA⟩ : ∃ A, u * nb / V = A := ⟨_, rfl⟩
  obtain ⟨E, hE⟩ : ∃ E, (u + 1) * nb / V = E := ⟨_, rfl⟩
  rw [hA] at hA2 f0
  rw [hE] at hA1 hA2 f1
  have HA : Hid _ := hA
  have HE : Hid _ := hE
  obtain ⟨u1, hu1⟩ : ∃ u1, u + 1 = u1 := ⟨_, rfl⟩
  rw [hu1] at f1
  have HU1 : Hid _ := hu1
  have eu : (u : Int) + 1 = (u1 : Int) := by omega
  have hu2 : u1 < V + 1 := by omega
  clear h hR bd hb1 hlr h1 r1 hu hk k0 k1 n0 n1 hA hE hu1
  go_enter Tryz.func33, Tryz.ntmps33
  go_wp2_with fail
  clear hw1 hlb
  go_quiet (first | (go_at_call 54; exact Calls.quiet_of_same (HPV.out _)))
  go_wp2_with fail
  refine Calls.mono (HPK.out _) ?_
  rintro e w2 ⟨rfl, rfl⟩
  obtain ⟨W1, hW1⟩ : ∃ W1, w1.drewN nq = W1 := ⟨_, rfl⟩
  rw [hW1]
  replace l0 : W1.cell? ⟨lb, 0, none⟩ = some (.int .i64 k) := by rw [← hW1]; exact l0
  replace l1 : W1.cell? ⟨lb, 1, none⟩ = some (.int .i64 N) := by rw [← hW1]; exact l1
  replace l2 : W1.cell? ⟨lb, 2, none⟩ = some (.int .i64 t) := by rw [← hW1]; exact l2
  replace b0 : W1.cell? ⟨wb, 0, none⟩ = some (.pointer (some ⟨x, 0, none⟩)) := by rw [← hW1]; exact b0
  replace b1 : W1.cell? ⟨wb, 1, none⟩ = some (.slice (some ⟨gl, 0, none⟩) nb nb) := by rw [← hW1]; exact b1
  replace b2 : W1.cell? ⟨wb, 2, none⟩ = some (.slice (some ⟨go, 0, none⟩) V V) := by rw [← hW1]; exact b2
  replace b3 : W1.cell? ⟨wb, 3, none⟩ = some (.slice (some ⟨gc, 0, none⟩) V cc) := by rw [← hW1]; exact b3
  replace c3 : W1.cell? ⟨x, 3, none⟩ = some (.int .i64 V) := by rw [← hW1]; exact c3
  replace c6 : W1.cell? ⟨x, 6, none⟩ = some (.slice (some ⟨gf, 0, none⟩) (V + 1) cf) := by rw [← hW1]; exact c6
  replace f0 : W1.cell? ⟨gf, u, none⟩ = some (.int .i64 (A : Nat)) := by rw [← hW1]; exact f0
  replace f1 : W1.cell? ⟨gf, u1, none⟩ = some (.int .i64 (E : Nat)) := by rw [← hW1]; exact f1
  replace HW1 : Hid (Wrk B wb gl go gc cc x gf cf gp cp K M C V ns nb pl lost out cut W1) := by show Wrk _ _ _ _ _ _ _ _ _ _ _ _ _ _ _ _ _ _ _ _ _ _; rw [← hW1]; exact Wrk.drewN HW1.out nq
  replace HR1 : Hid (VRw W1 gv V L) := by show VRw _ _ _ _; rw [← hW1]; exact VRw.drewN HR1.out nq
  replace HB1 : Hid (Below w.heap.size w W1) := by show Below _ _ _; rw [← hW1]; exact below_dN HB1.out nq
  clear hW1
  have HPA : Hid (∀ W, Calls Tryz.prog 54 #[.int .i64 t, .int .i64 ((E - A + 1 : Nat) : Int)] W fun e w' => e = .returned (.int .i64 (pk t (E - A + 1))) ∧ w' = W) := fun W => pick_at t (E - A + 1) _ W rfl (by omega) (by omega) t0 t1
  have hpt := pk_lt t (E - A + 1) (by omega)
  obtain ⟨D, hD⟩ : ∃ D, E - A + 1 = D := ⟨_, rfl⟩
  rw [hD] at HPA hpt
  obtain ⟨y, hy⟩ : ∃ y, pk t D = y := ⟨_, rfl⟩
  rw [hy] at HPA hpt
  obtain ⟨f, hf⟩ : ∃ f, A + y = f := ⟨_, rfl⟩
  have eD : (E : Int) - (A : Int) + 1 = (D : Int) := by omega
  have eE : IntKind.i64.wrap ((E : Int) - (A : Int)) = (E : Int) - (A : Int) := by rw [IntKind.wrap_i64]; omega
  have eF : IntKind.i64.wrap (D : Int) = (D : Int) := by rw [IntKind.wrap_i64]; omega
  have eG : IntKind.i64.wrap ((u1 : Nat) : Int) = (u1 : Int) := by rw [IntKind.wrap_i64]; omega
  have ef : (A : Int) + (y : Int) = (f : Int) := by omega
  have eH : IntKind.i64.wrap (f : Int) = (f : Int) := by rw [IntKind.wrap_i64]; omega
  have hfA : A ≤ f := by omega
  have hfE : f ≤ E := by omega
  have HMY : Hid (∀ j, Calls Tryz.prog 76 #[.pointer (some ⟨wb, 0, none⟩), .int .i64 f, .int .i64 E] (W1.drewN j) fun e w' => e = .returned (.bool (mayB K M ns lost f E)) ∧ ∃ m, w' = (W1.drewN j).drewN m) := fun j => may_any (Wrk.drewN HW1.out j) HBD.out.k5 HBD.out.m3 (by omega) HBD.out.bns HBD.out.bns2 f E
  have HYE : Hid (mayB K M ns lost f E = true → May K M ns lost f E) := mayB_may
  obtain ⟨mb, hmb⟩ : ∃ mb, mayB K M ns lost f E = mb := ⟨_, rfl⟩
  rw [hmb] at HMY HYE
  clear hmb hD hy hf t0 t1
  go_wp2_with fail
  go_quiet (first | (go_at_call 54; exact Calls.quiet_of_same (HPA.out _)))
  go_wp2_with fail
  refine Calls.mono (HMY.out _) ?_
  rintro e w3 ⟨rfl, m1, hw3⟩
  rw [World.drewN_drewN] at hw3
  have HW3 : Hid (Wrk B wb gl go gc cc x gf cf gp cp K M C V ns nb pl lost out cut w3) := by show Wrk _ _ _ _ _ _ _ _ _ _ _ _ _ _ _ _ _ _ _ _ _ _; rw [hw3]; exact Wrk.drewN HW1.out _
  have HR3 : Hid (VRw w3 gv V L) := by show VRw _ _ _ _; rw [hw3]; exact VRw.drewN HR1.out _
  have HB3 : Hid (Below w.heap.size w w3) := by show Below _ _ _; rw [hw3]; exact below_dN HB1.out _
  clear hw3 l0 l1 l2 b0 b1 b2 b3 c3 c6 f0 f1 HW1 HR1 HB1 HMY HPA HPV HPK eD eE eF ef
  have b3 : w3.cell? ⟨wb, 3, none⟩ = some (.slice (some ⟨gc, 0, none⟩) V cc) := cell_of_row _ _ _ _ 96 _ HW3.out.row
  have d1 := HW3.out.cell hpl
  have d2 := HW3.out.free u
  obtain ⟨ct, hct⟩ : ∃ ct, cut u = ct := ⟨_, rfl⟩
  rw [hct] at d1
  clear hct
  cases mb
  · go_wp2_with fail
    go_ret
    exact TkD.none HW3.out HR3.out HB3.out
  · by_cases hc : f < ct
    · have hc' : (f : Int) < (ct : Int) := by omega
      obtain ⟨W5, hW5⟩ : ∃ W5, w3.setCell ⟨gc, u, none⟩ (.int .i64 f) = W5 := ⟨_, rfl⟩
      have HW5 : Hid (Wrk B wb gl go gc cc x gf cf gp cp K M C V ns nb pl (mkB lost f f) out (updC cut u f) W5) := by show Wrk _ _ _ _ _ _ _ _ _ _ _ _ _ _ _ _ _ _ _ _ _ _; rw [← hW5, mkB_nil]; exact HW3.out.setCut u f
      have HR5 : Hid (VRw W5 gv V L) := by
        show VRw _ _ _ _
        rw [← hW5]
        obtain ⟨cs, hcs, hv⟩ := HR3.out
        obtain ⟨cs', hcs', _⟩ := HW3.out.ct
        exact ⟨cs, (set_other _ _ _ _ _ (row_ne hcs hcs' (by decide))).trans hcs, hv⟩
      have HF5 : Hid (Fr (Q3 gl go gc) w W5) := by show Fr _ _ _; rw [← hW5]; exact (Fr.below HB3.out).set (.inl (.inr (.inr rfl))) _ _
      go_wp2_with fail
      clear hW5 b3 d1 d2 HW3 HR3 HB3
      go_loopw [13] (fun iv wr => ∃ i : Nat, f ≤ i ∧ i ≤ E ∧ iv = .int .i64 i ∧ Wrk B wb gl go gc cc x gf cf gp cp K M C V ns nb pl (mkB lost f i) out (updC cut u f) wr ∧ VRw wr gv V L ∧ Fr (Q3 gl go gc) w wr) (fun iv _ => E - (intOf iv).toNat)
      case atStart => exact ⟨f, Nat.le_refl _, hfE, rfl, HW5.out, HR5.out, HF5.out⟩
      case round =>
        obtain ⟨i, hi1, hi2, rfl, hw, hr, hf⟩ := hrel
        have HWr : Hid _ := hw
        have HRr : Hid (VRw wr gv V L) := hr
        have HFr : Hid _ := hf
        clear hw hr hf HW5 HR5 HF5
        have c6 : wr.cell? ⟨x, 6, none⟩ = some (.slice (some ⟨gf, 0, none⟩) (V + 1) cf) := cell_of_row _ _ _ _ 84 _ HWr.out.pln.row
        have f1 : wr.cell? ⟨gf, u1, none⟩ = some (.int .i64 (E : Nat)) := by have := HWr.out.pln.fst (u + 1) (by omega); rw [HE.out, HU1.out] at this; exact this
        by_cases hlt : i < E
        · have hin : (i : Int) < (E : Int) := by omega
          have b1 : wr.cell? ⟨wb, 1, none⟩ = some (.slice (some ⟨gl, 0, none⟩) nb nb) := cell_of_row _ _ _ _ 96 _ HWr.out.row
          have g1 : wr.cell? ⟨gl, i, none⟩ = some (.bool (mkB lost f i i)) := HWr.out.ls.cell i (by omega)
          have g2 := HWr.out.ls.free i
          have hib : (i : Int) < (nb : Int) := by omega
          go_wp2_with fail
          go_roundw
          case rel => exact ⟨i + 1, by omega, by omega, by go_num, by rw [← mkB_step hi1]; exact HWr.out.setLost i, (by
            obtain ⟨cs, hcs, hv⟩ := HRr.out
            exact ⟨cs, (set_other _ _ _ _ _ (row_ne hcs HWr.out.ls (by decide))).trans hcs, hv⟩), HFr.out.set (.inl (.inl rfl)) _ _⟩
          case measure => simp [intOf]; omega
        · have hin : ¬ (i : Int) < (E : Int) := by omega
          obtain rfl : i = E := by omega
          go_wp2_with fail
          go_ret
          exact ⟨_, out, _, L, gv, cv, rfl, HWr.out, HRr.out, .inr (.inr (.inl ⟨u, f, hpl, by rw [HA.out]; exact hfA, by rw [HE.out]; exact hfE, by rw [HE.out]; exact HYE.out trivial, by rw [HE.out], rfl, rfl, rfl⟩)), HFr.out, .inl rfl⟩
    · have hc' : ¬ (f : Int) < (ct : Int) := by omega
      go_wp2_with fail
      go_ret
      exact TkD.none HW3.out HR3.out HB3.out
end Go.Proofs.YtadinjaocnlglaaGreatDoor
