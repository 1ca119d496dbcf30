/-
  The walks of vaultkeep's wrecked and may.
  The walk of vaultkeep's with.
  The walk of vaultkeep's rest.
  The walk of vaultkeep's takes: a block is zeroed.
  The walk of vaultkeep's takes: a volume is cut.
  The walk of vaultkeep's takes: a volume is left out.
  What vaultkeep.Erased keeps from loss to loss.
  The walk of vaultkeep's cuts.
-/
import Derived.Test.YtadinjaocnlglaaGreatDoorZ43
import Derived.Test.YtadinjaocnlglaaGreatDoorZ44
namespace Go.Proofs.YtadinjaocnlglaaGreatDoor
open Go.RowKit
set_option maxRecDepth 100000
set_option maxHeartbeats 4000000
end Go.Proofs.YtadinjaocnlglaaGreatDoor
namespace Go.Proofs.YtadinjaocnlglaaGreatDoor
open Go.RowKit
set_option maxRecDepth 100000
set_option maxHeartbeats 4000000
/-- a row of texts -/
def VRw (w : World) (g V : Nat) (L : Nat → ByteArray) : Prop := ∃ cs : Array Value, w.heap[g]? = some (.cells cs 9 (0, 0)) ∧ ∀ v, v < V → cs[v]? = some (.string (L v))
theorem VRw.cell {w : World} {g V : Nat} {L : Nat → ByteArray} (h : VRw w g V L) {v : Nat} (hv : v < V) : w.cell? ⟨g, v, none⟩ = some (.string (L v)) := by
  obtain ⟨cs, h1, h2⟩ := h
  rw [cell_of_row w g v cs 9 _ h1]; exact h2 v hv
theorem VRw.free {w : World} {g V : Nat} {L : Nat → ByteArray} (h : VRw w g V L) (v : Nat) : w.frozen? ⟨g, v, none⟩ = false := by
  obtain ⟨cs, h1, h2⟩ := h
  exact frozen_of_row w g v cs 9 h1
theorem VRw.lt {w : World} {g V : Nat} {L : Nat → ByteArray} (h : VRw w g V L) : g < w.heap.size := by
  obtain ⟨cs, h1, h2⟩ := h
  exact (Array.getElem?_eq_some_iff.1 h1).1
theorem VRw.kept {w w' : World} {g V : Nat} {L : Nat → ByteArray} (h : VRw w g V L) (hk : w'.heap[g]? = w.heap[g]?) : VRw w' g V L := by
  obtain ⟨cs, h1, h2⟩ := h
  exact ⟨cs, hk.trans h1, h2⟩
theorem VRw.set {w : World} {g V : Nat} {L : Nat → ByteArray} (h : VRw w g V L) (u : Nat) (t : ByteArray) : VRw (w.setCell ⟨g, u, none⟩ (.string t)) g V (updT L u t) := by
  obtain ⟨cs, h1, h2⟩ := h
  refine ⟨_, set_heap _ _ _ _ _ _ _ h1, fun v hv => ?_⟩
  have e := h2 v hv
  have hl : v < cs.size := (Array.getElem?_eq_some_iff.1 e).1
  rw [Array.getElem?_setIfInBounds]
  unfold updT
  by_cases ev : u = v
  · subst ev; rw [if_pos rfl, if_pos hl, if_pos rfl]
  · rw [if_neg ev, if_neg (fun e => ev e.symm)]; exact e
theorem own_vr {w : World} {B n : Nat} {L : Nat → ByteArray} {v : Value} (h : w.ownsRow B 9 1 v n (tV L n)) (hn : 0 < n) : ∃ g cap, v = .slice (some ⟨g, 0, none⟩) n cap ∧ B ≤ g ∧ VRw w g n L := by
  obtain ⟨g, cap, rfl, hB, _, hcl⟩ := own_row9 h hn
  obtain ⟨cur, hcur⟩ := own_type h g rfl
  refine ⟨g, cap, rfl, hB, cur, hcur, fun i hi => ?_⟩
  have := hcl i hi
  rw [cell_of_row w g i cur 9 _ hcur] at this
  exact this
def WtD (w : World) (V : Nat) (L : Nat → ByteArray) (e : Ending) (w' : World) : Prop := ∃ g c, e = .returned (.slice (some ⟨g, 0, none⟩) V c) ∧ VRw w' g V L ∧ Below w.heap.size w w' ∧ w.heap.size ≤ g
theorem with_any (x gf cf gp cp K M C V ns nb n v gv cv : Nat) (pl : Nat → Nat) (L : Nat → ByteArray) (z : ByteArray) (w : World) (h : Pln x gf cf gp cp K M C V ns nb pl w) (hV : V ≤ 1000) (hC : C ≤ 1000) (hnb : nb ≤ 1000000) (hv : v < V) (h1 : v * nb / V ≤ n) (h2 : n < (v + 1) * nb / V)
    (hz : z.size = C) (hR : VRw w gv V L) (hfit : pl v + (n - v * nb / V) * C + C ≤ (L v).size) (hLs : (L v).size ≤ 1000000000) :
    Calls Tryz.prog 78 #[.pointer (some ⟨x, 0, none⟩), .slice (some ⟨gv, 0, none⟩) V cv, .int .i64 n, .string z] w (WtD w V (updT L v (wBk (L v) (pl v + (n - v * nb / V) * C) z))) := by
  obtain ⟨lv, w1, hr1, hcase, hb1⟩ := own_copy w (some ⟨gv, 0, none⟩) V cv L (.inr ⟨_, rfl, fun i hi => ⟨gv, 0, rfl, hR.lt, by rw [Nat.zero_add]; exact hR.cell hi⟩⟩) (by omega)
  obtain ⟨g, cap, rfl, hgB, hvr⟩ : ∃ g cap, lv = .slice (some ⟨g, 0, none⟩) V cap ∧ w.heap.size ≤ g ∧ VRw w1 g V L := by
    rcases hcase with ⟨e, _⟩ | ⟨_, ho⟩
    · omega
    · exact own_vr ho (by omega)
  have hP := h.below (h.lt (by omega)) hb1
  have HV : Hid _ := volumeOf_any x gf cf gp cp K M C V ns nb n v pl w1 hP hV hv h1 h2
  have c2 : w1.cell? ⟨x, 2, none⟩ = some (.int .i64 C) := cell_of_row _ _ _ _ 84 _ hP.row
  have c3 : w1.cell? ⟨x, 6, none⟩ = some (.slice (some ⟨gf, 0, none⟩) (V + 1) cf) := cell_of_row _ _ _ _ 84 _ hP.row
  have c4 : w1.cell? ⟨x, 7, none⟩ = some (.slice (some ⟨gp, 0, none⟩) V cp) := cell_of_row _ _ _ _ 84 _ hP.row
  have f := hP.fst v (by omega)
  have p := hP.plc v hv
  have l : w1.cell? ⟨g, v, none⟩ = some (.string (L v)) := hvr.cell hv
  have fr : w1.frozen? ⟨g, v, none⟩ = false := hvr.free v
  have hn : n ≤ 1000000 := by have := rng_top (nb := nb) (v := v + 1) (by omega : 1 ≤ V) (by omega); omega
  have HRUN : Hid _ := hr1
  have HB1 : Hid _ := hb1
  have HVR : Hid (VRw w1 g V L) := hvr
  obtain ⟨A, hA⟩ : ∃ A, v * nb / V = A := ⟨_, rfl⟩
  rw [hA] at f h1 hfit ⊢
  obtain ⟨P, hPv⟩ : ∃ P, pl v = P := ⟨_, rfl⟩
  rw [hPv] at p hfit ⊢
  obtain ⟨i, hi⟩ : ∃ i, n - A = i := ⟨_, rfl⟩
  rw [hi] at hfit ⊢
  have hiC : i * C ≤ 1000000 * 1000 := Nat.mul_le_mul (by omega) hC
  obtain ⟨Z, hZ⟩ : ∃ Z, i * C = Z := ⟨_, rfl⟩
  have e1 : IntKind.i64.wrap ((n : Int) - (A : Int)) = (i : Int) := by rw [IntKind.wrap_i64]; omega
  have e2 : IntKind.i64.wrap ((i : Int) * (C : Int)) = (Z : Int) := by rw [← Int.natCast_mul, hZ, IntKind.wrap_i64]; omega
  rw [hZ] at hfit hiC ⊢
  obtain ⟨D, hD⟩ : ∃ D, P + Z = D := ⟨_, rfl⟩
  have e3 : IntKind.i64.wrap ((P : Int) + (Z : Int)) = (D : Int) := by rw [IntKind.wrap_i64]; omega
  rw [hD] at hfit ⊢
  obtain ⟨E, hE⟩ : ∃ E, D + C = E := ⟨_, rfl⟩
  have e4 : IntKind.i64.wrap ((D : Int) + (C : Int)) = (E : Int) := by rw [IntKind.wrap_i64]; omega
  rw [hE] at hfit
  have k1 : (0 : Int) ≤ (D : Int) := by omega
  have k2 : (D : Int) ≤ ((L v).size : Int) := by omega
  have k3 : (0 : Int) ≤ (E : Int) := by omega
  have k4 : (E : Int) ≤ ((L v).size : Int) := by omega
  have HDE : Hid (D + z.size = E) := by show D + z.size = E; rw [hz]; exact hE
  clear hA hPv hi hZ h hR h1 h2 hr1 hb1 hvr hD hE hP hcase
  go_enter Tryz.func78, Tryz.ntmps78
  go_wp2_with (at_builtin; refine wpList_app rfl (.tmp 12) (.tmp 13) 42 rfl _ _ _ (by simp [Act.eval]) (by simp [Act.eval]) _ HRUN.out ?_)
  refine Calls.mono HV.out ?_
  rintro e w2 ⟨rfl, rfl⟩
  go_wp2_with fail
  go_quiet (fail)
  go_wp2_with fail
  obtain ⟨W3, hW3⟩ : ∃ W3, w2.drewN nq = W3 := ⟨_, rfl⟩
  have l3 : W3.cell? ⟨g, v, none⟩ = some (.string (L v)) := by rw [← hW3]; exact l
  have fr3 : W3.frozen? ⟨g, v, none⟩ = false := by rw [← hW3]; exact fr
  have HR3 : Hid (VRw W3 g V L) := by show VRw _ _ _ _; rw [← hW3]; exact VRw.kept HVR.out rfl
  have HB3 : Hid (Below w.heap.size w W3) := by show Below _ _ _; rw [← hW3]; exact below_drewN HB1.out nq
  rw [hW3]
  clear hW3 l fr HVR HB1 c2 c3 c4 f p e1 e2 e3 HV HRUN
  have e5 : (D : Int) + (C : Int) = (E : Int) := by have := HDE.out; omega
  have q1 : min D (L v).size = D := by omega
  have hLs2 := hLs
  clear e4
  go_region
  have HW : Hid (wBk (L v) D z = (L v).extract 0 D ++ z ++ (L v).extract E (L v).size) := by show _ = _; unfold wBk; rw [HDE.out]
  go_wp2_with fail
  go_ret
  refine ⟨g, cap, rfl, ?_, (HB3.out.setCell (p := ⟨g, v, none⟩) hgB _).drew, hgB⟩
  rw [HW.out]
  exact VRw.kept (HR3.out.set v _) rfl
end Go.Proofs.YtadinjaocnlglaaGreatDoor
namespace Go.Proofs.YtadinjaocnlglaaGreatDoor
open Go.RowKit
set_option maxRecDepth 100000
set_option maxHeartbeats 4000000
def rsT (pl : Nat → Nat) (V nb C : Nat) (cut : Nat → Nat) (L : Nat → ByteArray) (v : Nat) : ByteArray := (L v).extract 0 (pl v + (cut v - v * nb / V) * C)
def RsD (w : World) (X : Nat → ByteArray) (out : Nat → Bool) (V : Nat) (e : Ending) (w' : World) : Prop := ∃ v H n, e = .returned v ∧ w'.ownsRow w.heap.size 9 1 v n (tV H n) ∧ texL H n = (kpL out V).map X ∧ Below w.heap.size w w'
theorem rest_any {B wb gl go gc cc x gf cf gp cp K M C V ns nb gv cv : Nat} {pl : Nat → Nat} {lost out : Nat → Bool} {cut : Nat → Nat} {L : Nat → ByteArray} {w : World} (h : Wrk B wb gl go gc cc x gf cf gp cp K M C V ns nb pl lost out cut w) (hV5 : V ≤ 5) (hC8 : C ≤ 8) (hnb : nb ≤ 1000) (hp : ∀ v, v < V → pl v ≤ 1000000) (hR : VRw w gv V L) (hlo : ∀ v, v < V → v * nb / V ≤ cut v) (hhi : ∀ v, v < V → cut v ≤ (v + 1) * nb / V) (hsz : ∀ v, v < V → (L v).size = pl v + ((v + 1) * nb / V - v * nb / V) * C) :
    Calls Tryz.prog 36 #[.pointer (some ⟨wb, 0, none⟩), .slice (some ⟨gv, 0, none⟩) V cv] w (RsD w (rsT pl V nb C cut L) out V) := by
  have HW : Hid (∀ W, Below w.heap.size w W → Wrk B wb gl go gc cc x gf cf gp cp K M C V ns nb pl lost out cut W ∧ VRw W gv V L) := fun W hW => ⟨h.below hW, hR.kept (hW.block gv hR.lt)⟩
  have HSM : Hid (∀ v, v < V → ∃ A d Z D, v * nb / V = A ∧ cut v - v * nb / V = d ∧ (cut v - v * nb / V) * C = Z ∧ pl v + (cut v - v * nb / V) * C = D ∧ A ≤ 1000 ∧ cut v ≤ 1000 ∧ A + d = cut v ∧ d * C = Z ∧ Z ≤ 8000 ∧ pl v + Z = D ∧ D ≤ (L v).size) := fun v hv => by
    have e1 := hlo v hv
    have e2 := hhi v hv
    have e3 := rng_top (nb := nb) (v := v + 1) (by omega : 1 ≤ V) (by omega)
    have e6 := hsz v hv
    generalize v * nb / V = A at e1 e6 ⊢
    generalize (v + 1) * nb / V = E at e2 e3 e6
    have e4 : (cut v - A) * C ≤ (E - A) * C := Nat.mul_le_mul_right _ (by omega)
    have e5 : (cut v - A) * C ≤ 1000 * 8 := Nat.mul_le_mul (by omega) hC8
    exact ⟨_, _, _, _, rfl, rfl, rfl, rfl, by omega, by omega, by omega, rfl, by omega, rfl, by rw [e6]; omega⟩
  have HP : Hid _ := hp
  clear h hR hlo hhi hsz hp
  go_enter Tryz.func36, Tryz.ntmps36
  go_wp2_with fail
  go_loopw [5, 6] (fun ov iv wr => ∃ (i : Nat) (H : Nat → ByteArray) (n : Nat), i ≤ V ∧ iv = .int .i64 i ∧ n ≤ i ∧ wr.ownsRow w.heap.size 9 1 ov n (tV H n) ∧ texL H n = (kpL out i).map (rsT pl V nb C cut L) ∧ Below w.heap.size w wr) (fun _ iv _ => V - (intOf iv).toNat)
  case atStart => exact ⟨0, fun _ => ⟨#[]⟩, 0, by omega, rfl, Nat.le_refl _, ⟨rfl, .inl ⟨rfl, rfl⟩⟩, rfl, Below.refl _ _⟩
  case round =>
    obtain ⟨i, H, n, hi, rfl, hni, hO, hT, hB⟩ := hrel
    have HO : Hid _ := hO
    have HT : Hid _ := hT
    have HB : Hid _ := hB
    clear hO hT hB
    obtain ⟨h1, r1⟩ := HW.out wr HB.out
    have b0 : wr.cell? ⟨wb, 0, none⟩ = some (.pointer (some ⟨x, 0, none⟩)) := cell_of_row _ _ _ _ 96 _ h1.row
    have b2 : wr.cell? ⟨wb, 2, none⟩ = some (.slice (some ⟨go, 0, none⟩) V V) := cell_of_row _ _ _ _ 96 _ h1.row
    have b3 : wr.cell? ⟨wb, 3, none⟩ = some (.slice (some ⟨gc, 0, none⟩) V cc) := cell_of_row _ _ _ _ 96 _ h1.row
    have c2 : wr.cell? ⟨x, 2, none⟩ = some (.int .i64 C) := cell_of_row _ _ _ _ 84 _ h1.pln.row
    have c3 : wr.cell? ⟨x, 3, none⟩ = some (.int .i64 V) := cell_of_row _ _ _ _ 84 _ h1.pln.row
    have c6 : wr.cell? ⟨x, 6, none⟩ = some (.slice (some ⟨gf, 0, none⟩) (V + 1) cf) := cell_of_row _ _ _ _ 84 _ h1.pln.row
    have c7 : wr.cell? ⟨x, 7, none⟩ = some (.slice (some ⟨gp, 0, none⟩) V cp) := cell_of_row _ _ _ _ 84 _ h1.pln.row
    obtain ⟨av, cv', hvs⟩ := own_shape HO.out
    subst hvs
    by_cases hlt : i < V
    · have hin : (i : Int) < (V : Int) := by omega
      have o1 : wr.cell? ⟨go, i, none⟩ = some (.bool (out i)) := h1.ou.cell i hlt
      obtain ⟨oi, hoi⟩ : ∃ oi, out i = oi := ⟨_, rfl⟩
      rw [hoi] at o1
      have HOI : Hid _ := hoi
      clear hoi
      cases oi
      · obtain ⟨A, d, Z, D, eA, ed, eZ, eD, hA, hcut, hAd, hdZ, hZ, hPZ, hD⟩ := HSM.out i hlt
        have f1 : wr.cell? ⟨gf, i, none⟩ = some (.int .i64 (A : Nat)) := by rw [← eA]; exact h1.pln.fst i (by omega)
        have f2 := h1.pln.plc i hlt
        have f3 := h1.cell hlt
        have f4 := r1.cell hlt
        have hpi := HP.out i hlt
        obtain ⟨P, hP⟩ : ∃ P, pl i = P := ⟨_, rfl⟩
        obtain ⟨c, hc⟩ : ∃ c, cut i = c := ⟨_, rfl⟩
        rw [hP] at f2 hPZ hpi
        rw [hc] at f3 hcut hAd
        have e1 : IntKind.i64.wrap ((c : Int) - (A : Int)) = (d : Int) := by rw [IntKind.wrap_i64]; omega
        have e2 : IntKind.i64.wrap ((d : Int) * (C : Int)) = (Z : Int) := by rw [← Int.natCast_mul, hdZ, IntKind.wrap_i64]; omega
        have e3 : IntKind.i64.wrap ((P : Int) + (Z : Int)) = (D : Int) := by rw [IntKind.wrap_i64]; omega
        have k1 : (0 : Int) ≤ (D : Int) := by omega
        have k2 : (D : Int) ≤ ((L i).size : Int) := by omega
        have HX : Hid (rsT pl V nb C cut L i = (L i).extract 0 D) := by show _ = _; unfold rsT; rw [eD]
        have hdi : (d : Int) = (c : Int) - (A : Int) := by omega
        clear eA ed eZ eD hP hc hAd hdZ h1 r1 hdi
        go_wp2_with fail
        go_quiet (fail)
        obtain ⟨W3, hW3⟩ : ∃ W3, wr.drewN nq = W3 := ⟨_, rfl⟩
        have HO3 : Hid (W3.ownsRow w.heap.size 9 1 (.slice av n cv') n (tV H n)) := by show World.ownsRow _ _ _ _ _ _ _; rw [← hW3]; exact own_kept HO.out (fun _ _ => rfl)
        have HB3 : Hid (Below w.heap.size w W3) := by show Below _ _ _; rw [← hW3]; exact below_drewN HB.out nq
        have f5 : W3.cell? ⟨gv, i, none⟩ = some (.string (L i)) := by rw [← hW3]; exact f4
        rw [hW3]
        clear hW3 f1 f2 f3 f4 b0 b2 b3 c2 c3 c6 c7 o1 HO HB
        obtain ⟨v', w2, hr2, ho2, hg2, hbk⟩ := own_more HO3.out HB3.out.size (by omega) ((L i).extract 0 D)
        have HRUN : Hid _ := hr2
        have HO2 : Hid _ := ho2
        have HB2 : Hid (Below w.heap.size w w2) := (HB3.out.alloc HB3.out.size _).grown hg2 (by simp; have := HB3.out.size; omega) (fun y hy => own_ge HO3.out y hy)
        have HK : Hid (kpL out (i + 1) = kpL out i ++ [i]) := by show _ = _; rw [kpL_succ, HOI.out]; simp
        obtain ⟨av', cv2, hvs⟩ := own_shape HO2.out
        subst hvs
        clear hr2 ho2 hg2 hbk
        go_wp2_with (at_builtin; refine wpList_app rfl (.tmp 66) (.tmp 73) 42 rfl _ _ _ (by simp [Act.eval]) (by simp [Act.eval]) _ HRUN.out ?_)
        go_roundw
        case rel => exact ⟨i + 1, _, n + 1, by omega, by go_num, by omega, HO2.out, by rw [texL_more, HK.out, HT.out, List.map_append, List.map_singleton, HX.out], HB2.out⟩
        case measure => simp [intOf]; omega
      · have HK : Hid (kpL out (i + 1) = kpL out i) := by show _ = _; rw [kpL_succ, HOI.out]; simp
        clear h1 r1
        go_wp2_with fail
        go_roundw
        case rel => exact ⟨i + 1, H, n, by omega, by go_num, by omega, HO.out, by rw [HK.out]; exact HT.out, HB.out⟩
        case measure => simp [intOf]; omega
    · have hin : ¬ (i : Int) < (V : Int) := by omega
      obtain rfl : i = V := by omega
      clear h1 r1
      go_wp2_with fail
      go_ret
      exact ⟨_, H, n, rfl, HO.out, HT.out, HB.out⟩
end Go.Proofs.YtadinjaocnlglaaGreatDoor
namespace Go.Proofs.YtadinjaocnlglaaGreatDoor
open Go.RowKit
set_option maxRecDepth 100000
set_option maxHeartbeats 4000000
/-- bounds -/
structure Bd (K M C V ns nb : Nat) (pl : Nat → Nat) : Prop where
  k1 : 1 ≤ K
  k5 : K ≤ 5
  m3 : M ≤ 3
  c1 : 1 ≤ C
  c8 : C ≤ 8
  v1 : 1 ≤ V
  v5 : V ≤ 5
  bnb : nb ≤ 512
  bns : ns * (K + M) = nb
  bns2 : ns ≤ 1000
  bpl : ∀ v, v < V → pl v ≤ 1000000
def TkD (B wb gl go gc cc x gf cf gp cp K M C V ns nb gv : Nat) (pl : Nat → Nat) (lost out : Nat → Bool) (cut : Nat → Nat) (L : Nat → ByteArray) (w : World) (e : Ending) (w' : World) : Prop :=
  ∃ lost' out' cut' L' g c, e = .returned (.slice (some ⟨g, 0, none⟩) V c) ∧ Wrk B wb gl go gc cc x gf cf gp cp K M C V ns nb pl lost' out' cut' w' ∧ VRw w' g V L' ∧ Tk K M C V ns nb pl lost out cut L lost' out' cut' L' ∧ Fr (Q3 gl go gc) w w' ∧ (g = gv ∨ w.heap.size ≤ g)
section
variable {B wb gl go gc cc x gf cf gp cp K M C V ns nb gv : Nat} {pl : Nat → Nat} {lost out : Nat → Bool} {cut : Nat → Nat} {L : Nat → ByteArray} {w w' : World}
theorem Wrk.drewN (h : Wrk B wb gl go gc cc x gf cf gp cp K M C V ns nb pl lost out cut w) (m : Nat) : Wrk B wb gl go gc cc x gf cf gp cp K M C V ns nb pl lost out cut (w.drewN m) := h.kept (fun _ _ => rfl)
theorem VRw.drewN (h : VRw w gv V L) (m : Nat) : VRw (w.drewN m) gv V L := h.kept rfl
/-- nothing is lost -/
theorem TkD.none {c : Nat} (h : Wrk B wb gl go gc cc x gf cf gp cp K M C V ns nb pl lost out cut w') (hR : VRw w' gv V L) (hb : Below w.heap.size w w') : TkD B wb gl go gc cc x gf cf gp cp K M C V ns nb gv pl lost out cut L w (.returned (.slice (some ⟨gv, 0, none⟩) V c)) w' :=
  ⟨lost, out, cut, L, gv, c, rfl, h, hR, .inl ⟨rfl, rfl, rfl, rfl⟩, Fr.below hb, .inl rfl⟩
end
theorem below_dN {B : Nat} {w w' : World} (h : Below B w w') (m : Nat) : Below B w (w'.drewN m) := below_drewN h m
end Go.Proofs.YtadinjaocnlglaaGreatDoor
namespace Go.Proofs.YtadinjaocnlglaaGreatDoor
open Go.RowKit
set_option maxRecDepth 100000
set_option maxHeartbeats 4000000
end Go.Proofs.YtadinjaocnlglaaGreatDoor
namespace Go.Proofs.YtadinjaocnlglaaGreatDoor
open Go.RowKit
set_option maxRecDepth 100000
set_option maxHeartbeats 4000000
end Go.Proofs.YtadinjaocnlglaaGreatDoor
namespace Go.Proofs.YtadinjaocnlglaaGreatDoor
open Go.RowKit
set_option maxRecDepth 100000
set_option maxHeartbeats 4000000
/-- a list of losses -/
def Lss (w : World) (a : Option Addr) (n : Nat) : Prop := ∀ i, i < n → ∃ b off k m t, a = some ⟨b, off, none⟩ ∧ b < w.heap.size ∧ w.cell? ⟨b, off + i * 3, none⟩ = some (.int .i64 k) ∧ w.cell? ⟨b, off + i * 3 + 1, none⟩ = some (.int .i64 m) ∧ w.cell? ⟨b, off + i * 3 + 2, none⟩ = some (.int .i64 t) ∧ (-9223372036854775808 ≤ k ∧ k ≤ 9223372036854775807) ∧ (-9223372036854775808 ≤ m ∧ m ≤ 9223372036854775807) ∧ (-9223372036854775808 ≤ t ∧ t ≤ 9223372036854775807)
theorem Lss.below {w w' : World} {a : Option Addr} {n : Nat} (h : Lss w a n) (hb : Below w.heap.size w w') : Lss w' a n := fun i hi => by
  obtain ⟨b, off, k, m, t, e, hlt, x0, x1, x2, hr⟩ := h i hi
  exact ⟨b, off, k, m, t, e, Nat.lt_of_lt_of_le hlt hb.size, (hb.cell (p := ⟨b, off + i * 3, none⟩) hlt).trans x0, (hb.cell (p := ⟨b, off + i * 3 + 1, none⟩) hlt).trans x1, (hb.cell (p := ⟨b, off + i * 3 + 2, none⟩) hlt).trans x2, hr⟩
theorem rw_vr {w : World} {g V : Nat} {L : Nat → ByteArray} (h : Rw w g V 9 (tX L)) : VRw w g V L :=
  ⟨_, h, fun v hv => (cell_of_row w g v _ 9 _ h).symm.trans (h.cell v hv)⟩
/-- what is left so far -/
def EL (hd Bk : Nat → ByteArray) (B wb gl go gc cc x gf cf gp cp K M C V ns nb g : Nat) (pl : Nat → Nat) (w0 : World) (lost out : Nat → Bool) (cut : Nat → Nat) (L R : Nat → ByteArray) (w : World) : Prop :=
  Wrk B wb gl go gc cc x gf cf gp cp K M C V ns nb pl lost out cut w ∧ VRw w g V L ∧ WIv K M C V nb ns Bk lost out cut R ∧ (∀ v, v < V → L v = hd v ++ R v) ∧ Fr (Q3 gl go gc) w0 w
theorem el_sz {hd Bk : Nat → ByteArray} {K M C V ns nb : Nat} {pl : Nat → Nat} {lost out : Nat → Bool} {cut : Nat → Nat} {L R : Nat → ByteArray} (hpl : ∀ v, v < V → pl v = (hd v).size) (hW : WIv K M C V nb ns Bk lost out cut R) (hL : ∀ v, v < V → L v = hd v ++ R v) : ∀ v, v < V → (L v).size = pl v + ((v + 1) * nb / V - v * nb / V) * C := fun v hv => by
  rw [hL v hv, ByteArray.size_append, hW.sz v hv, hpl v hv]
section
variable {K M C V cnt : Nat} {es : List (ByteArray × Nat)} {s : ByteArray}
theorem VOk.hd_le (kt : Nat → Int) (h : VOk K M C V cnt es s) (v : Nat) : (hdE kt K M C V es s v).size ≤ 30000 := by
  have hnb : nbT K M C s = cnt := h.ct
  have e2 := ls_len h.lok
  have e3 := vint_size v
  have e4 := lv_size kt K M C s
  have e5 : (rtE kt K M C V es s).size = 32 := ofT_size _ _
  have e6 : (ofT kt (⟨#[3]⟩ ++ toE kt K M C V es s v)).size = 32 := ofT_size _ _
  have e7 : volM.size = 4 := rfl
  have e8 := h.c512
  rw [hnb] at e4
  unfold hdE
  rw [ByteArray.size_append, e6]
  unfold toE
  simp only [ByteArray.size_append]
  omega
end
end Go.Proofs.YtadinjaocnlglaaGreatDoor
namespace Go.Proofs.YtadinjaocnlglaaGreatDoor
open Go.RowKit
set_option maxRecDepth 100000
set_option maxHeartbeats 4000000
def CtD (B wb gl go gc cc x gf cf gp cp K M C V ns nb : Nat) (pl : Nat → Nat) (lost out : Nat → Bool) (cut : Nat → Nat) (w : World) (e : Ending) (w' : World) : Prop :=
  ∃ out' cut', e = .returned (.tuple #[]) ∧ Wrk B wb gl go gc cc x gf cf gp cp K M C V ns nb pl lost out' cut' w' ∧ Fr (Q3 gl go gc) w w' ∧ (cut' = cut ∨ ∃ v f, v < V ∧ v * nb / V ≤ f ∧ f ≤ (v + 1) * nb / V ∧ cut' = updC cut v f) ∧ (out' = out ∨ ∃ v, v < V ∧ (∃ u, u < V ∧ u ≠ v ∧ out u = false) ∧ out' = updB out v true)
theorem cuts_any {B wb gl go gc cc x gf cf gp cp K M C V ns nb : Nat} {pl : Nat → Nat} {lost out : Nat → Bool} {cut : Nat → Nat} {w : World} (h : Wrk B wb gl go gc cc x gf cf gp cp K M C V ns nb pl lost out cut w) (bd : Bd K M C V ns nb pl)
    (k N t : Int) (n0 : -9223372036854775808 ≤ N) (n1 : N ≤ 9223372036854775807) (t0 : -9223372036854775808 ≤ t) (t1 : t ≤ 9223372036854775807) :
    Calls Tryz.prog 38 #[.pointer (some ⟨wb, 0, none⟩), .agg #[.int .i64 k, .int .i64 N, .int .i64 t]] w (CtD B wb gl go gc cc x gf cf gp cp K M C V ns nb pl lost out cut w) := by
  obtain ⟨w1, hw1⟩ : ∃ w1, w.alloc (.cells #[.int .i64 k, .int .i64 N, .int .i64 t] 82) = w1 := ⟨_, rfl⟩
  have hb1 : Below w.heap.size w w1 := by rw [← hw1]; exact (Below.refl _ _).alloc (Nat.le_refl _) _
  have hlr : w1.heap[w.heap.size]? = some (.cells #[.int .i64 k, .int .i64 N, .int .i64 t] 82 (0, 0)) := by rw [← hw1]; exact heap_alloc_new _ _
  have h1 := h.below hb1
  have hgcl := h.lt.2.2.2
  have l0 : w1.cell? ⟨w.heap.size, 0, none⟩ = some (.int .i64 k) := cell_of_row _ _ _ _ 82 _ hlr
  have l1 : w1.cell? ⟨w.heap.size, 1, none⟩ = some (.int .i64 N) := cell_of_row _ _ _ _ 82 _ hlr
  have l2 : w1.cell? ⟨w.heap.size, 2, none⟩ = some (.int .i64 t) := cell_of_row _ _ _ _ 82 _ hlr
  have b0 : w1.cell? ⟨wb, 0, none⟩ = some (.pointer (some ⟨x, 0, none⟩)) := cell_of_row _ _ _ _ 96 _ h1.row
  have b1 : w1.cell? ⟨wb, 1, none⟩ = some (.slice (some ⟨gl, 0, none⟩) nb nb) := cell_of_row _ _ _ _ 96 _ h1.row
  have b2 : w1.cell? ⟨wb, 2, none⟩ = some (.slice (some ⟨go, 0, none⟩) V V) := cell_of_row _ _ _ _ 96 _ h1.row
  have b3 : w1.cell? ⟨wb, 3, none⟩ = some (.slice (some ⟨gc, 0, none⟩) V cc) := cell_of_row _ _ _ _ 96 _ h1.row
  have c3 : w1.cell? ⟨x, 3, none⟩ = some (.int .i64 V) := cell_of_row _ _ _ _ 84 _ h1.pln.row
  have c6 : w1.cell? ⟨x, 6, none⟩ = some (.slice (some ⟨gf, 0, none⟩) (V + 1) cf) := cell_of_row _ _ _ _ 84 _ h1.pln.row
  have v1 := bd.v1
  have v5 := bd.v5
  have nb5 := bd.bnb
  have HPV : Hid (∀ W, Calls Tryz.prog 54 #[.int .i64 N, .int .i64 V] W fun e w' => e = .returned (.int .i64 (pk N V)) ∧ w' = W) := fun W => pick_at N V V W rfl (by omega) (by omega) n0 n1
  have HW1 : Hid _ := h1
  have HB1 : Hid _ := hb1
  have HBD : Hid _ := bd
  have hpl := pk_lt N V (by omega)
  obtain ⟨u, hu⟩ : ∃ u, pk N V = u := ⟨_, rfl⟩
  rw [hu] at HPV hpl
  obtain ⟨lb, hlb⟩ : ∃ lb, w.heap.size = lb := ⟨_, rfl⟩
  rw [hlb] at l0 l1 l2
  have HLB : Hid _ := hlb
  have HBG : Hid (gc < lb) := by show gc < lb; rw [← hlb]; exact hgcl
  have hA1 := rng_top (nb := nb) (v := u + 1) (by omega : 1 ≤ V) (by omega)
  have hA2 := rng_le (nb := nb) (V := V) (show u ≤ u + 1 by omega)
  have f0 := h1.pln.fst u (by omega)
  have f1 := h1.pln.fst (u + 1) (by omega)
  obtain ⟨A, hA⟩ : ∃ A, u * nb / V = A := ⟨_, rfl⟩
  obtain ⟨E, hE⟩ : ∃ E, (u + 1) * nb / V = E := ⟨_, rfl⟩
  rw [hA] at hA2 f0
  rw [hE] at hA1 hA2 f1
  have HA : Hid _ := hA
  have HE : Hid _ := hE
  obtain ⟨u1, hu1⟩ : ∃ u1, u + 1 = u1 := ⟨_, rfl⟩
  rw [hu1] at f1
  have HU1 : Hid _ := hu1
  have eu : (u : Int) + 1 = (u1 : Int) := by omega
  have hu2 : u1 < V + 1 := by omega
  clear h bd hb1 hlr h1 hu n0 n1 hA hE hu1
  go_enter Tryz.func38, Tryz.ntmps38
  go_wp2_with fail
  clear hw1 hlb
  go_quiet (first | (go_at_call 54; exact Calls.quiet_of_same (HPV.out _)))
  go_wp2_with fail
  obtain ⟨W1, hW1⟩ : ∃ W1, w1.drewN nq = W1 := ⟨_, rfl⟩
  rw [hW1]
  replace l0 : W1.cell? ⟨lb, 0, none⟩ = some (.int .i64 k) := by rw [← hW1]; exact l0
  replace l1 : W1.cell? ⟨lb, 1, none⟩ = some (.int .i64 N) := by rw [← hW1]; exact l1
  replace l2 : W1.cell? ⟨lb, 2, none⟩ = some (.int .i64 t) := by rw [← hW1]; exact l2
  replace b0 : W1.cell? ⟨wb, 0, none⟩ = some (.pointer (some ⟨x, 0, none⟩)) := by rw [← hW1]; exact b0
  replace b1 : W1.cell? ⟨wb, 1, none⟩ = some (.slice (some ⟨gl, 0, none⟩) nb nb) := by rw [← hW1]; exact b1
  replace b2 : W1.cell? ⟨wb, 2, none⟩ = some (.slice (some ⟨go, 0, none⟩) V V) := by rw [← hW1]; exact b2
  replace b3 : W1.cell? ⟨wb, 3, none⟩ = some (.slice (some ⟨gc, 0, none⟩) V cc) := by rw [← hW1]; exact b3
  replace c3 : W1.cell? ⟨x, 3, none⟩ = some (.int .i64 V) := by rw [← hW1]; exact c3
  replace c6 : W1.cell? ⟨x, 6, none⟩ = some (.slice (some ⟨gf, 0, none⟩) (V + 1) cf) := by rw [← hW1]; exact c6
  replace f0 : W1.cell? ⟨gf, u, none⟩ = some (.int .i64 (A : Nat)) := by rw [← hW1]; exact f0
  replace f1 : W1.cell? ⟨gf, u1, none⟩ = some (.int .i64 (E : Nat)) := by rw [← hW1]; exact f1
  replace HW1 : Hid (Wrk B wb gl go gc cc x gf cf gp cp K M C V ns nb pl lost out cut W1) := by show Wrk _ _ _ _ _ _ _ _ _ _ _ _ _ _ _ _ _ _ _ _ _ _; rw [← hW1]; exact Wrk.drewN HW1.out nq
  replace HB1 : Hid (Below w.heap.size w W1) := by show Below _ _ _; rw [← hW1]; exact below_dN HB1.out nq
  clear hW1
  have HPA : Hid (∀ W, Calls Tryz.prog 54 #[.int .i64 t, .int .i64 ((E - A + 1 : Nat) : Int)] W fun e w' => e = .returned (.int .i64 (pk t (E - A + 1))) ∧ w' = W) := fun W => pick_at t (E - A + 1) _ W rfl (by omega) (by omega) t0 t1
  have hpt := pk_lt t (E - A + 1) (by omega)
  obtain ⟨D, hD⟩ : ∃ D, E - A + 1 = D := ⟨_, rfl⟩
  rw [hD] at HPA hpt
  obtain ⟨y, hy⟩ : ∃ y, pk t D = y := ⟨_, rfl⟩
  rw [hy] at HPA hpt
  obtain ⟨f, hf⟩ : ∃ f, A + y = f := ⟨_, rfl⟩
  have eD : (E : Int) - (A : Int) + 1 = (D : Int) := by omega
  have eE : IntKind.i64.wrap ((E : Int) - (A : Int)) = (E : Int) - (A : Int) := by rw [IntKind.wrap_i64]; omega
  have eF : IntKind.i64.wrap (D : Int) = (D : Int) := by rw [IntKind.wrap_i64]; omega
  have eG : IntKind.i64.wrap ((u1 : Nat) : Int) = (u1 : Int) := by rw [IntKind.wrap_i64]; omega
  have ef : (A : Int) + (y : Int) = (f : Int) := by omega
  have eH : IntKind.i64.wrap (f : Int) = (f : Int) := by rw [IntKind.wrap_i64]; omega
  have hfA : A ≤ f := by omega
  have hfE : f ≤ E := by omega
  clear hD hy hf t0 t1
  go_quiet (first | (go_at_call 54; exact Calls.quiet_of_same (HPA.out _)))
  obtain ⟨W2, hW2⟩ : ∃ W2, W1.drewN nq = W2 := ⟨_, rfl⟩
  replace HW1 : Hid (Wrk B wb gl go gc cc x gf cf gp cp K M C V ns nb pl lost out cut W2) := by show Wrk _ _ _ _ _ _ _ _ _ _ _ _ _ _ _ _ _ _ _ _ _ _; rw [← hW2]; exact Wrk.drewN HW1.out nq
  replace HB1 : Hid (Below w.heap.size w W2) := by show Below _ _ _; rw [← hW2]; exact below_dN HB1.out nq
  replace l0 : W2.cell? ⟨lb, 0, none⟩ = some (.int .i64 k) := by rw [← hW2]; exact l0
  rw [hW2]
  clear hW2 l1 l2 b0 b1 b2 b3 c3 c6 f0 f1 HPA HPV eD eE eF ef
  have b3 : W2.cell? ⟨wb, 3, none⟩ = some (.slice (some ⟨gc, 0, none⟩) V cc) := cell_of_row _ _ _ _ 96 _ HW1.out.row
  have d1 := HW1.out.cell hpl
  have d2 := HW1.out.free u
  obtain ⟨ct, hct⟩ : ∃ ct, cut u = ct := ⟨_, rfl⟩
  rw [hct] at d1
  clear hct
  have hlbb : lb < W2.heap.size := block_lt_of_cell l0
  have hlw : W2.cell? ⟨lb, 0, none⟩ = some (.int .i64 k) := l0
  by_cases hk1 : k = 1
  · subst hk1
    by_cases hc : f < ct
    · have hc' : (f : Int) < (ct : Int) := by omega
      obtain ⟨W5, hW5⟩ : ∃ W5, W2.setCell ⟨gc, u, none⟩ (.int .i64 f) = W5 := ⟨_, rfl⟩
      have HW5 : Hid (Wrk B wb gl go gc cc x gf cf gp cp K M C V ns nb pl lost out (updC cut u f) W5) := by show Wrk _ _ _ _ _ _ _ _ _ _ _ _ _ _ _ _ _ _ _ _ _ _; rw [← hW5]; exact HW1.out.setCut u f
      have HF5 : Hid (Fr (Q3 gl go gc) w W5) := by show Fr _ _ _; rw [← hW5]; exact (Fr.below HB1.out).set (.inl (.inr (.inr rfl))) _ _
      have l5 : W5.cell? ⟨lb, 0, none⟩ = some (.int .i64 1) := by
        rw [← hW5]
        have hne : lb ≠ gc := Nat.ne_of_gt HBG.out
        exact (World.cell?_of_block (a := ⟨lb, 0, none⟩) (set_other W2 gc u lb _ hne)).trans l0
      have HWX : Hid (Wrk B wb gl go gc cc x gf cf gp cp K M C V ns nb pl lost out (updC cut u f) W5) := HW5.out
      have b2 : W5.cell? ⟨wb, 2, none⟩ = some (.slice (some ⟨go, 0, none⟩) V V) := cell_of_row _ _ _ _ 96 _ HWX.out.row
      have c3 : W5.cell? ⟨x, 3, none⟩ = some (.int .i64 V) := cell_of_row _ _ _ _ 84 _ HWX.out.pln.row
      have o1 : W5.cell? ⟨go, u, none⟩ = some (.bool (out u)) := HWX.out.ou.cell u hpl
      have o2 := HWX.out.ou.free u
      go_wp2_with fail
      go_loopw [7, 8] (fun nv iv wr => ∃ i : Nat, i ≤ V ∧ nv = .int .i64 (cnt (fun j => !out j) i : Nat) ∧ iv = .int .i64 i ∧ wr = W5) (fun _ iv _ => V - (intOf iv).toNat)
      case atStart => exact ⟨0, by omega, rfl, rfl, rfl⟩
      case round =>
        obtain ⟨i, hi, rfl, rfl, hw⟩ := hrel
        subst hw
        have hcl := cnt_le (fun j => !out j) i
        have HST : Hid (cnt (fun j => !out j) (i + 1) = cnt (fun j => !out j) i + (if (!out i) = true then 1 else 0)) := rfl
        have HCN : Hid (∀ v, 1 < cnt (fun j => !out j) V → ∃ u, u < V ∧ u ≠ v ∧ out u = false) := fun v hv => by
          have e1 := cnt_upd (fun j => !out j) v V
          obtain ⟨u, hu, hu2, _⟩ := cnt_first (updB (fun j => !out j) v false) V (by omega)
          unfold updB at hu2
          by_cases e : u = v
          · rw [if_pos e] at hu2; cases hu2
          · rw [if_neg e] at hu2; exact ⟨u, hu, e, by simpa using hu2⟩
        by_cases hlt : i < V
        · have hin : (i : Int) < (V : Int) := by omega
          have oi1 : wr.cell? ⟨go, i, none⟩ = some (.bool (out i)) := HWX.out.ou.cell i hlt
          obtain ⟨ci, hci⟩ : ∃ ci, cnt (fun j => !out j) i = ci := ⟨_, rfl⟩
          rw [hci] at hcl HST ⊢
          obtain ⟨oi, hoi⟩ : ∃ oi, out i = oi := ⟨_, rfl⟩
          rw [hoi] at oi1 HST
          clear hci hoi
          cases oi
          · go_wp2_with fail
            go_roundw
            case rel => exact ⟨i + 1, by omega, by rw [HST.out]; simp, by go_num, by first | rfl | trivial⟩
            case measure => simp [intOf]; omega
          · go_wp2_with fail
            go_roundw
            case rel => exact ⟨i + 1, by omega, by rw [HST.out]; simp, by go_num, by first | rfl | trivial⟩
            case measure => simp [intOf]; omega
        · have hin : ¬ (i : Int) < (V : Int) := by omega
          obtain ⟨lf, hlf⟩ : ∃ lf, cnt (fun j => !out j) i = lf := ⟨_, rfl⟩
          have hiV : i = V := by omega
          rw [hlf] at hcl ⊢
          have HLF : Hid (cnt (fun j => !out j) V = lf) := by show _ = _; rw [← hiV]; exact hlf
          clear hlf HST hiV
          go_wp2_with fail
          go_end0
          exact ⟨out, _, rfl, HWX.out, HF5.out, .inr ⟨u, f, hpl, by rw [HA.out]; exact hfA, by rw [HE.out]; exact hfE, rfl⟩, .inl rfl⟩
    · have hc' : ¬ (f : Int) < (ct : Int) := by omega
      have HWX : Hid (Wrk B wb gl go gc cc x gf cf gp cp K M C V ns nb pl lost out cut W2) := HW1.out
      have b2 : W2.cell? ⟨wb, 2, none⟩ = some (.slice (some ⟨go, 0, none⟩) V V) := cell_of_row _ _ _ _ 96 _ HWX.out.row
      have c3 : W2.cell? ⟨x, 3, none⟩ = some (.int .i64 V) := cell_of_row _ _ _ _ 84 _ HWX.out.pln.row
      have o1 : W2.cell? ⟨go, u, none⟩ = some (.bool (out u)) := HWX.out.ou.cell u hpl
      have o2 := HWX.out.ou.free u
      go_wp2_with fail
      go_loopw [7, 8] (fun nv iv wr => ∃ i : Nat, i ≤ V ∧ nv = .int .i64 (cnt (fun j => !out j) i : Nat) ∧ iv = .int .i64 i ∧ wr = W2) (fun _ iv _ => V - (intOf iv).toNat)
      case atStart => exact ⟨0, by omega, rfl, rfl, rfl⟩
      case round =>
        obtain ⟨i, hi, rfl, rfl, hw⟩ := hrel
        subst hw
        have hcl := cnt_le (fun j => !out j) i
        have HST : Hid (cnt (fun j => !out j) (i + 1) = cnt (fun j => !out j) i + (if (!out i) = true then 1 else 0)) := rfl
        have HCN : Hid (∀ v, 1 < cnt (fun j => !out j) V → ∃ u, u < V ∧ u ≠ v ∧ out u = false) := fun v hv => by
          have e1 := cnt_upd (fun j => !out j) v V
          obtain ⟨u, hu, hu2, _⟩ := cnt_first (updB (fun j => !out j) v false) V (by omega)
          unfold updB at hu2
          by_cases e : u = v
          · rw [if_pos e] at hu2; cases hu2
          · rw [if_neg e] at hu2; exact ⟨u, hu, e, by simpa using hu2⟩
        by_cases hlt : i < V
        · have hin : (i : Int) < (V : Int) := by omega
          have oi1 : wr.cell? ⟨go, i, none⟩ = some (.bool (out i)) := HWX.out.ou.cell i hlt
          obtain ⟨ci, hci⟩ : ∃ ci, cnt (fun j => !out j) i = ci := ⟨_, rfl⟩
          rw [hci] at hcl HST ⊢
          obtain ⟨oi, hoi⟩ : ∃ oi, out i = oi := ⟨_, rfl⟩
          rw [hoi] at oi1 HST
          clear hci hoi
          cases oi
          · go_wp2_with fail
            go_roundw
            case rel => exact ⟨i + 1, by omega, by rw [HST.out]; simp, by go_num, by first | rfl | trivial⟩
            case measure => simp [intOf]; omega
          · go_wp2_with fail
            go_roundw
            case rel => exact ⟨i + 1, by omega, by rw [HST.out]; simp, by go_num, by first | rfl | trivial⟩
            case measure => simp [intOf]; omega
        · have hin : ¬ (i : Int) < (V : Int) := by omega
          obtain ⟨lf, hlf⟩ : ∃ lf, cnt (fun j => !out j) i = lf := ⟨_, rfl⟩
          have hiV : i = V := by omega
          rw [hlf] at hcl ⊢
          have HLF : Hid (cnt (fun j => !out j) V = lf) := by show _ = _; rw [← hiV]; exact hlf
          clear hlf HST hiV
          go_wp2_with fail
          go_end0
          exact ⟨out, _, rfl, HWX.out, Fr.below HB1.out, .inl rfl, .inl rfl⟩
  · by_cases hk2 : k = 2
    · subst hk2
      have HWX : Hid (Wrk B wb gl go gc cc x gf cf gp cp K M C V ns nb pl lost out cut W2) := HW1.out
      have b2 : W2.cell? ⟨wb, 2, none⟩ = some (.slice (some ⟨go, 0, none⟩) V V) := cell_of_row _ _ _ _ 96 _ HWX.out.row
      have c3 : W2.cell? ⟨x, 3, none⟩ = some (.int .i64 V) := cell_of_row _ _ _ _ 84 _ HWX.out.pln.row
      have o1 : W2.cell? ⟨go, u, none⟩ = some (.bool (out u)) := HWX.out.ou.cell u hpl
      have o2 := HWX.out.ou.free u
      go_wp2_with fail
      go_loopw [7, 8] (fun nv iv wr => ∃ i : Nat, i ≤ V ∧ nv = .int .i64 (cnt (fun j => !out j) i : Nat) ∧ iv = .int .i64 i ∧ wr = W2) (fun _ iv _ => V - (intOf iv).toNat)
      case atStart => exact ⟨0, by omega, rfl, rfl, rfl⟩
      case round =>
        obtain ⟨i, hi, rfl, rfl, hw⟩ := hrel
        subst hw
        have hcl := cnt_le (fun j => !out j) i
        have HST : Hid (cnt (fun j => !out j) (i + 1) = cnt (fun j => !out j) i + (if (!out i) = true then 1 else 0)) := rfl
        have HCN : Hid (∀ v, 1 < cnt (fun j => !out j) V → ∃ u, u < V ∧ u ≠ v ∧ out u = false) := fun v hv => by
          have e1 := cnt_upd (fun j => !out j) v V
          obtain ⟨u, hu, hu2, _⟩ := cnt_first (updB (fun j => !out j) v false) V (by omega)
          unfold updB at hu2
          by_cases e : u = v
          · rw [if_pos e] at hu2; cases hu2
          · rw [if_neg e] at hu2; exact ⟨u, hu, e, by simpa using hu2⟩
        by_cases hlt : i < V
        · have hin : (i : Int) < (V : Int) := by omega
          have oi1 : wr.cell? ⟨go, i, none⟩ = some (.bool (out i)) := HWX.out.ou.cell i hlt
          obtain ⟨ci, hci⟩ : ∃ ci, cnt (fun j => !out j) i = ci := ⟨_, rfl⟩
          rw [hci] at hcl HST ⊢
          obtain ⟨oi, hoi⟩ : ∃ oi, out i = oi := ⟨_, rfl⟩
          rw [hoi] at oi1 HST
          clear hci hoi
          cases oi
          · go_wp2_with fail
            go_roundw
            case rel => exact ⟨i + 1, by omega, by rw [HST.out]; simp, by go_num, by first | rfl | trivial⟩
            case measure => simp [intOf]; omega
          · go_wp2_with fail
            go_roundw
            case rel => exact ⟨i + 1, by omega, by rw [HST.out]; simp, by go_num, by first | rfl | trivial⟩
            case measure => simp [intOf]; omega
        · have hin : ¬ (i : Int) < (V : Int) := by omega
          obtain ⟨lf, hlf⟩ : ∃ lf, cnt (fun j => !out j) i = lf := ⟨_, rfl⟩
          have hiV : i = V := by omega
          rw [hlf] at hcl ⊢
          have HLF : Hid (cnt (fun j => !out j) V = lf) := by show _ = _; rw [← hiV]; exact hlf
          clear hlf HST hiV
          by_cases q : 1 < lf
          · have q' : (1 : Int) < (lf : Int) := by omega
            go_wp2_with fail
            go_end0
            exact ⟨_, _, rfl, HWX.out.setOut u, (Fr.below HB1.out).set (.inl (.inr (.inl rfl))) _ _, .inl rfl, .inr ⟨u, hpl, HCN.out u (by rw [HLF.out]; exact q), rfl⟩⟩
          · have q' : ¬ (1 : Int) < (lf : Int) := by omega
            go_wp2_with fail
            go_end0
            exact ⟨out, cut, rfl, HWX.out, Fr.below HB1.out, .inl rfl, .inl rfl⟩
    · have e1 : (k == 1) = false := by simp [hk1]
      have e2 : (k == 2) = false := by simp [hk2]
      have HWX : Hid (Wrk B wb gl go gc cc x gf cf gp cp K M C V ns nb pl lost out cut W2) := HW1.out
      have b2 : W2.cell? ⟨wb, 2, none⟩ = some (.slice (some ⟨go, 0, none⟩) V V) := cell_of_row _ _ _ _ 96 _ HWX.out.row
      have c3 : W2.cell? ⟨x, 3, none⟩ = some (.int .i64 V) := cell_of_row _ _ _ _ 84 _ HWX.out.pln.row
      have o1 : W2.cell? ⟨go, u, none⟩ = some (.bool (out u)) := HWX.out.ou.cell u hpl
      have o2 := HWX.out.ou.free u
      go_wp2_with fail
      go_loopw [7, 8] (fun nv iv wr => ∃ i : Nat, i ≤ V ∧ nv = .int .i64 (cnt (fun j => !out j) i : Nat) ∧ iv = .int .i64 i ∧ wr = W2) (fun _ iv _ => V - (intOf iv).toNat)
      case atStart => exact ⟨0, by omega, rfl, rfl, rfl⟩
      case round =>
        obtain ⟨i, hi, rfl, rfl, hw⟩ := hrel
        subst hw
        have hcl := cnt_le (fun j => !out j) i
        have HST : Hid (cnt (fun j => !out j) (i + 1) = cnt (fun j => !out j) i + (if (!out i) = true then 1 else 0)) := rfl
        have HCN : Hid (∀ v, 1 < cnt (fun j => !out j) V → ∃ u, u < V ∧ u ≠ v ∧ out u = false) := fun v hv => by
          have e1 := cnt_upd (fun j => !out j) v V
          obtain ⟨u, hu, hu2, _⟩ := cnt_first (updB (fun j => !out j) v false) V (by omega)
          unfold updB at hu2
          by_cases e : u = v
          · rw [if_pos e] at hu2; cases hu2
          · rw [if_neg e] at hu2; exact ⟨u, hu, e, by simpa using hu2⟩
        by_cases hlt : i < V
        · have hin : (i : Int) < (V : Int) := by omega
          have oi1 : wr.cell? ⟨go, i, none⟩ = some (.bool (out i)) := HWX.out.ou.cell i hlt
          obtain ⟨ci, hci⟩ : ∃ ci, cnt (fun j => !out j) i = ci := ⟨_, rfl⟩
          rw [hci] at hcl HST ⊢
          obtain ⟨oi, hoi⟩ : ∃ oi, out i = oi := ⟨_, rfl⟩
          rw [hoi] at oi1 HST
          clear hci hoi
          cases oi
          · go_wp2_with fail
            go_roundw
            case rel => exact ⟨i + 1, by omega, by rw [HST.out]; simp, by go_num, by first | rfl | trivial⟩
            case measure => simp [intOf]; omega
          · go_wp2_with fail
            go_roundw
            case rel => exact ⟨i + 1, by omega, by rw [HST.out]; simp, by go_num, by first | rfl | trivial⟩
            case measure => simp [intOf]; omega
        · have hin : ¬ (i : Int) < (V : Int) := by omega
          obtain ⟨lf, hlf⟩ : ∃ lf, cnt (fun j => !out j) i = lf := ⟨_, rfl⟩
          have hiV : i = V := by omega
          rw [hlf] at hcl ⊢
          have HLF : Hid (cnt (fun j => !out j) V = lf) := by show _ = _; rw [← hiV]; exact hlf
          clear hlf HST hiV
          go_wp2_with fail
          go_end0
          exact ⟨out, _, rfl, HWX.out, Fr.below HB1.out, .inl rfl, .inl rfl⟩
end Go.Proofs.YtadinjaocnlglaaGreatDoor
