/-
  The walk of stripe.fill.
  The walks of stripe.Restore, vault.Restore, where they refuse nothing.
  Plain: what Restore puts together is the whole stripe, wherever k places are told as known.
-/
import Derived.Test.YtadinjaocnlglaaGreatDoorZ28
import Derived.WalkKit
import Derived.WalkSpells
import Derived.WalkLawsBesides
import Derived.BigRegion
import Derived.BigQuiet
import Derived.Deep.QuietTactic
import Derived.Deep.RegionWith
import Derived.Deep.RegionHeld3
namespace Go.Proofs.YtadinjaocnlglaaGreatDoor
open Go.RowKit
set_option maxRecDepth 100000
/-- values put at places, one behind the other -/
def puts (z : Nat → Value) (idx : Nat → Nat) (val : Nat → Value) : Nat → Nat → Value
  | 0 => z
  | j + 1 => updV (puts z idx val j) (idx j) (val j)
/-- the blocks that come out of fill -/
def filled (S : Nat → ByteArray) (p q : Nat → Nat) (k m c : Nat) : Nat → Value :=
  puts (puts (fun _ => .string ⟨#[]⟩) p (fun i => .string (S (p i))) k) q (tI (vl p q k c fun i => S (p i))) m
/-- all blocks but one are as they were -/
def Same (a : Nat) (w w' : World) : Prop := ∀ k, k ≠ a → w'.heap[k]? = w.heap[k]?
theorem Same.put {a : Nat} {w w' : World} (h : Same a w w') (i : Nat) (v : Value) : Same a w (w'.setCell ⟨a, i, none⟩ v) := fun k hk => (heap_setCell_other w' ⟨a, i, none⟩ k v hk).trans (h k hk)
theorem Same.rw {a : Nat} {w w' : World} (h : Same a w w') {g n : Nat} {t : TypeId} {f : Nat → Value} (r : Rw w g n t f) (hg : g ≠ a) : Rw w' g n t f := by
  unfold Rw; rw [h g hg]; exact r
theorem Same.cl {a : Nat} {w w' : World} (h : Same a w w') {b n : Nat} {v : Nat → Value} (r : Cl w b n v) (hb : b ≠ a) : Cl w' b n v := fun i hi => (World.cell?_of_block (a := ⟨b, i, none⟩) (h b hb)).trans (r i hi)
set_option maxHeartbeats 1000000 in
theorem fill_any (S : Nat → ByteArray) (p q : Nat → Nat) (n k m c b cap b1 cap1 : Nat) (v2 : Value) (w : World) (hn : n ≤ 1000) (hk0 : 0 < k) (hk : k ≤ n) (hm : m ≤ n) (hn2 : n ≤ 256) (hc : c ≤ 140737488351232) (hS : ∀ i, i < k → (S (p i)).size = c) (hp : ∀ i, i < k → p i < n) (hq : ∀ i, i < m → q i < n)
    (hb : b < w.heap.size) (hb1 : b1 < w.heap.size) (hC : Cl w b n (tI S)) (h1 : Cl w b1 k (pI p)) (h2 : Pts w v2 m q) :
    Calls Tryz.prog 259 #[.slice (some ⟨b, 0, none⟩) n cap, .slice (some ⟨b1, 0, none⟩) k cap1, v2] w fun e w' => e = .returned (.slice (some ⟨w.heap.size, 0, none⟩) n n) ∧ Rw w' w.heap.size n 9 (filled S p q k m c) ∧ Below w.heap.size w w' := by
  have HS : Hid _ := hS
  have HP : Hid _ := hp
  have HQ : Hid _ := hq
  have HC : Hid _ := hC
  have H1 : Hid _ := h1
  have H2 : Hid _ := h2
  clear hS hp hq hC h1 h2
  have hmk := run_make_row' (P := Tryz.prog) 42 9 (.string ⟨#[]⟩) 16 Tryz.underlying42 info9 rfl .i64 .i64 n (by omega) (by omega)
  have hmk2 := run_make_row' (P := Tryz.prog) 42 9 (.string ⟨#[]⟩) 16 Tryz.underlying42 info9 rfl .i64 .i64 k (by omega) (by omega)
  go_enter Tryz.func259, Tryz.ntmps259
  go_wp2
  go_loopw [21] (fun iv wr => ∃ i : Nat, i ≤ k ∧ iv = .int .i64 i ∧ Below w.heap.size w wr ∧ Rw wr w.heap.size n 9 (puts (fun _ => .string ⟨#[]⟩) p (fun i => .string (S (p i))) i) ∧ Rw wr (w.heap.size + 1) k 9 (part' i (tI fun i => S (p i)) (.string ⟨#[]⟩))) (fun iv _ => k - (intOf iv).toNat)
  case atStart =>
    refine ⟨0, by omega, rfl, ((Below.refl _ _).alloc (Nat.le_refl _) _).alloc (by simp) _, (Rw.made w n 9 (.string ⟨#[]⟩)).alloc _, ?_⟩
    have := Rw.made (w.alloc (.cells (madeCells #[.string ⟨#[]⟩] n) 9)) k 9 (.string ⟨#[]⟩)
    have e : (w.alloc (.cells (madeCells #[.string ⟨#[]⟩] n) 9)).heap.size = w.heap.size + 1 := by simp
    rw [e] at this
    exact this.to (fun j _ => (part_0 _ _ j).symm)
  case round =>
    obtain ⟨i, hi, rfl, hbl, hA, hK⟩ := hrel
    by_cases hlt : i < k
    · have hpi := HP.out i hlt
      have c1 : wr.cell? ⟨b1, i, none⟩ = some (.int .i64 ((p i : Nat) : Int)) := Cl.below H1.out hbl hb1 i hlt
      have c2 : wr.cell? ⟨b, p i, none⟩ = some (.string (S (p i))) := Cl.below HC.out hbl hb (p i) hpi
      have c3 := hK.cell i hlt
      have c4 := hK.free i
      have hsz : (S (p i)).size ≤ 140737488351232 := by rw [HS.out i hlt]; exact hc
      have hpi2 : ((p i : Nat) : Int) < (n : Int) := by omega
      have hbw : b ≠ w.heap.size + 1 := by omega
      obtain ⟨x, hx⟩ : ∃ x, x = p i := ⟨_, rfl⟩
      rw [← hx] at c1 c2 hsz hpi2
      have HX : Hid _ := hx
      clear hx
      have c5 : (wr.setCell ⟨w.heap.size + 1, i, none⟩ (.string (S x))).cell? ⟨b, x, none⟩ = some (.string (S x)) :=
        (World.cell?_of_block (a := ⟨b, x, none⟩) (heap_setCell_other wr ⟨w.heap.size + 1, i, none⟩ b (.string (S x)) hbw)).trans c2
      go_wp2_with fail
      refine (sclone_any (S x) _ hsz).mono ?_
      rintro e w3 ⟨rfl, hB3⟩
      have hbz := hbl.size
      have hK3 : Rw w3 (w.heap.size + 1) k 9 (part' (i + 1) (tI fun i => S (p i)) (.string ⟨#[]⟩)) := ((hK.put i (.string (S x))).to (fun j _ => by rw [← part_step, HX.out]; rfl)).below hB3 ((hK.put i (.string (S x))).lt)
      have hA3 : Rw w3 w.heap.size n 9 (puts (fun _ => .string ⟨#[]⟩) p (fun i => .string (S (p i))) i) := (hA.other ⟨w.heap.size + 1, i, none⟩ (.string (S x)) (by simp)).below hB3 ((hA.other ⟨w.heap.size + 1, i, none⟩ (.string (S x)) (by simp)).lt)
      have hb3 : Below w.heap.size w w3 := (hbl.setCell (p := ⟨w.heap.size + 1, i, none⟩) (by simp) (.string (S x))).trans (hB3.mono (by simpa [World.setCell] using hbz))
      have c6 := hA3.cell x (by rw [HX.out]; exact hpi)
      have c7 := hA3.free x
      clear hB3 hbl hA hK c1 c2 c3 c4 c5
      go_wp2
      go_roundw
      case rel => exact ⟨i + 1, by omega, by go_num, hb3.setCell (Nat.le_refl _) _, by rw [HX.out]; exact hA3.put (p i) _, hK3.other _ _ (by simp)⟩
      case measure => simp [intOf]; omega
    · have e : i = k := by omega
      subst e
      have hK' : Cl wr (w.heap.size + 1) i (tI fun i => S (p i)) := (hK.to (fun j hj => by simp [part', hj])).cl
      have hf : Pts wr (.slice (some ⟨b1, 0, none⟩) i cap1) i p := .inr ⟨b1, cap1, rfl, Nat.lt_of_lt_of_le hb1 hbl.size, Cl.below H1.out hbl hb1⟩
      have ht : Pts wr v2 m q := Pts.below H2.out hbl
      have hkl := hK.lt
      have HK : Hid _ := hK'
      have HF : Hid _ := hf
      have HT : Hid _ := ht
      clear hK' hf ht hK
      go_wp2_with fail
      refine (values_any p q (fun i => S (p i)) i m c (w.heap.size + 1) i _ v2 wr hk0 (by omega) (by omega) hc HS.out (fun j hj => by have := HP.out j hj; omega) (fun j hj => by have := HQ.out j hj; omega) hkl HK.out HF.out HT.out).mono ?_
      rintro e w3 ⟨g, rfl, hg, hV3, hB3⟩
      have hA3 := hA.below hB3 hA.lt
      have hT3 := Pts.below HT.out hB3
      have hb3 := hbl.trans (hB3.mono hbl.size)
      have hgw : w.heap.size < g := by have := hbl.size; omega
      have HT3 : Hid _ := hT3
      clear hT3 HK HF HT hB3 hbl hA
      obtain ⟨b2, hb2, cap2, hv2⟩ : ∃ b2, b2 < w.heap.size ∧ ∃ cap2, (m = 0 ∨ (v2 = .slice (some ⟨b2, 0, none⟩) m cap2 ∧ Cl w3 b2 m (pI q))) := by
        rcases H2.out with ⟨_, h⟩ | ⟨b2, cap2, h, hl, hcl⟩
        · exact ⟨b, hb, 0, .inl h⟩
        · exact ⟨b2, hl, cap2, .inr ⟨h, Cl.below hcl hb3 hl⟩⟩
      have HV2 : Hid _ := hv2
      clear hv2
      go_wp2
      go_loopw [47] (fun jv wr => ∃ j : Nat, j ≤ m ∧ jv = .int .i64 j ∧ Below w.heap.size w wr ∧ Same w.heap.size w3 wr ∧ Rw wr w.heap.size n 9 (puts (puts (fun _ => .string ⟨#[]⟩) p (fun i => .string (S (p i))) i) q (tI (vl p q i c fun i => S (p i))) j)) (fun jv _ => m - (intOf jv).toNat)
      case atStart => exact ⟨0, by omega, rfl, hb3, fun _ _ => rfl, hA3⟩
      case round =>
        obtain ⟨j, hj, rfl, hbj, hsm, hA⟩ := hrel
        by_cases hlj : j < m
        · rcases HV2.out with h0 | ⟨hv, hcl⟩
          · omega
          · subst hv
            have hqj := HQ.out j hlj
            have c1 : wr.cell? ⟨g, j, none⟩ = some (.string (vl p q i c (fun i => S (p i)) j)) := (hsm.rw hV3 (by omega)).cell j hlj
            have c2 : wr.cell? ⟨b2, j, none⟩ = some (.int .i64 ((q j : Nat) : Int)) := hsm.cl hcl (by omega) j hlj
            have c3 := hA.cell (q j) hqj
            have c4 := hA.free (q j)
            have hq2 : ((q j : Nat) : Int) < (n : Int) := by omega
            have HA : Hid _ := hA
            have HSM : Hid _ := hsm
            clear hcl hsm hA hV3 hA3
            go_wp2
            go_roundw
            case rel => exact ⟨j + 1, by omega, by go_num, hbj.setCell (Nat.le_refl _) _, Same.put HSM.out (q j) _, Rw.put HA.out (q j) _⟩
            case measure => simp [intOf]; omega
        · have e : j = m := by omega
          subst e
          go_wp2
          go_ret
          exact ⟨rfl, hA, hbj⟩
end Go.Proofs.YtadinjaocnlglaaGreatDoor
namespace Go.Proofs.YtadinjaocnlglaaGreatDoor
open Go.RowKit
set_option maxRecDepth 100000
def gt (l : List Nat) : Nat → Nat := fun i => l.getD i 0
theorem vI_get (l : List Nat) (i : Nat) (h : i < l.length) : (vI l)[i]? = some (.int .i64 ((gt l i : Nat) : Int)) := by
  simp [vI, gt, h]
/-- what was gathered, as a list of points -/
theorem own_cells {w : World} {B : Nat} {v : Value} {l : List Nat} (h : w.ownsRow B 3 1 v l.length (vI l)) (h0 : 0 < l.length) : ∃ g cap, v = .slice (some ⟨g, 0, none⟩) l.length cap ∧ g < w.heap.size ∧ Cl w g l.length (pI (gt l)) := by
  rcases h.2 with ⟨_, h'⟩ | ⟨g, cap, cur, hv, _, hh, _⟩
  · omega
  · subst hv
    refine ⟨g, cap, rfl, (Array.getElem?_eq_some_iff.1 hh).1, fun i hi => ?_⟩
    rw [h.cellAt i (by omega), vI_get l i hi]
    rfl
theorem own_pts {w : World} {B : Nat} {v : Value} {l : List Nat} (h : w.ownsRow B 3 1 v l.length (vI l)) : Pts w v l.length (gt l) := by
  rcases h.2 with ⟨h1, h'⟩ | ⟨g, cap, cur, hv, _, hh, _⟩
  · exact .inl ⟨h1, h'⟩
  · subst hv
    refine .inr ⟨g, cap, rfl, (Array.getElem?_eq_some_iff.1 hh).1, fun i hi => ?_⟩
    rw [h.cellAt i (by omega), vI_get l i hi]
    rfl
theorem knL_mem (h : Nat → Bool) (k : Nat) : ∀ n x, x ∈ knL h k n → x < n ∧ h x = true
  | 0, x, hx => by simp [knL] at hx
  | n + 1, x, hx => by
    rw [knL] at hx
    split at hx
    · rename_i hc
      rcases List.mem_append.1 hx with hx | hx
      · have := knL_mem h k n x hx; exact ⟨by omega, this.2⟩
      · simp at hx; subst hx; exact ⟨by omega, hc.1⟩
    · have := knL_mem h k n x hx; exact ⟨by omega, this.2⟩
theorem wnL_mem (h : Nat → Bool) (k : Nat) : ∀ n x, x ∈ wnL h k n → x < n
  | 0, x, hx => by simp [wnL] at hx
  | n + 1, x, hx => by
    rw [wnL] at hx
    split at hx
    · have := wnL_mem h k n x hx; omega
    · rcases List.mem_append.1 hx with hx | hx
      · have := wnL_mem h k n x hx; omega
      · simp at hx; omega
theorem gt_mem (l : List Nat) (i : Nat) (h : i < l.length) : gt l i ∈ l := by
  unfold gt; rw [List.getD_eq_getElem?_getD, List.getElem?_eq_getElem h]; exact List.getElem_mem h
set_option maxHeartbeats 1000000 in
theorem restore_ok (S : Nat → ByteArray) (h : Nat → Bool) (k m c b cap b2 cap2 i0 : Nat) (w : World) (hk1 : 1 ≤ k) (hkm : k + m ≤ 255) (hc : c ≤ 140737488351232) (hi0 : i0 < k + m) (h1 : h i0 = true) (h2 : ∀ j, j < i0 → h j = false) (hS : ∀ i, i < k + m → h i = true → (S i).size = c) (hK : (knL h k (k + m)).length = k)
    (hb : b < w.heap.size) (hb2 : b2 < w.heap.size) (hC : Cl w b (k + m) (tI S)) (hB : Cl w b2 (k + m) (bI h)) :
    Calls Tryz.prog 221 #[.int .i64 k, .int .i64 m, .slice (some ⟨b, 0, none⟩) (k + m) cap, .slice (some ⟨b2, 0, none⟩) (k + m) cap2] w fun e w' => ∃ g, e = .returned (.tuple #[.slice (some ⟨g, 0, none⟩) (k + m) (k + m), .nilIface]) ∧ w.heap.size ≤ g ∧
      Rw w' g (k + m) 9 (filled S (gt (knL h k (k + m))) (gt (wnL h k (k + m))) k (wnL h k (k + m)).length c) ∧ Below w.heap.size w w' := by
  have HL : Hid _ := checkLengths_ok S h b (k + m) cap b2 cap2 c i0 w (by omega) hi0 h1 h2 hS hC hB
  have hml := wnL_len h k (k + m)
  obtain ⟨n, hn⟩ : ∃ n, n = k + m := ⟨_, rfl⟩
  have hni : ((k : Int) + (m : Int)) = (n : Int) := by omega
  rw [← hn] at hS hK hC hB HL hi0 hml ⊢
  have hn255 : n ≤ 255 := by omega
  have HNI : Hid _ := hni
  have hkn : k ≤ n := by omega
  have HS : Hid _ := hS
  have HK : Hid _ := hK
  have HC : Hid _ := hC
  have HB : Hid _ := hB
  clear hS hC hB hK h1 h2 hn
  go_enter Tryz.func221, Tryz.ntmps221
  go_wp2_with fail
  refine (checkParams_ok k m _ hk1 hkm).mono ?_
  rintro e w' ⟨rfl, rfl⟩
  go_wp2_with fail
  refine (Calls.mono HL.out ?_)
  rintro e w1 ⟨rfl, q, hq⟩
  have HQ : Hid _ := hq
  have hC1 : Cl w1 b n (tI S) := by rw [hq]; exact HC.out
  have hB1 : Cl w1 b2 n (bI h) := by rw [hq]; exact HB.out
  have hBel : Below w'.heap.size w' w1 := by rw [hq]; exact below_drewN (Below.refl _ _) q
  have hs1 : w1.heap.size = w'.heap.size := by rw [hq]; rfl
  have HC1 : Hid _ := hC1
  have HB1 : Hid _ := hB1
  have HS1 : Hid _ := hs1
  clear hC1 hB1 hq hs1 hni
  go_wp2_with fail
  refine (split_any h b2 n cap2 k w1 (by omega) (by omega) (by rw [HS1.out]; exact hb2) HB1.out).mono ?_
  rintro e w2 ⟨v1, v2, rfl, ho1, ho2, hB2⟩
  have hp2 := own_pts ho2
  obtain ⟨g1, cap1, hv1, hg1, hc1⟩ := own_cells ho1 (by rw [HK.out]; omega)
  rw [HK.out] at hv1 hc1
  subst hv1
  have HP2 : Hid _ := hp2
  have HC1' : Hid _ := hc1
  clear hp2 hc1 ho1 ho2
  have hbb : b < w2.heap.size := by have := HS1.out; have := hB2.size; omega
  have hC2 : Cl w2 b n (tI S) := Cl.below HC1.out hB2 (by rw [HS1.out]; exact hb)
  have HC2 : Hid _ := hC2
  clear hC2
  go_wp2_with fail
  refine (fill_any S (gt (knL h k n)) (gt (wnL h k n)) n k (wnL h k n).length c b cap g1 cap1 v2 w2 (by omega) (by omega) hkn hml (by omega) hc (fun i hi => ?_) (fun i hi => ?_) (fun i hi => ?_) hbb hg1 HC2.out HC1'.out HP2.out).mono ?_
  · have := knL_mem h k n _ (gt_mem (knL h k n) i (by rw [HK.out]; exact hi)); exact HS.out _ this.1 this.2
  · exact (knL_mem h k n _ (gt_mem (knL h k n) i (by rw [HK.out]; exact hi))).1
  · exact wnL_mem h k n _ (gt_mem (wnL h k n) i hi)
  rintro e w3 ⟨rfl, hR3, hB3⟩
  go_wp2
  go_ret2
  exact ⟨w2.heap.size, rfl, Nat.le_trans hBel.size hB2.size, hR3, (hBel.trans (hB2.mono hBel.size)).trans (hB3.mono (Nat.le_trans hBel.size hB2.size))⟩
end Go.Proofs.YtadinjaocnlglaaGreatDoor
namespace Go.Proofs.YtadinjaocnlglaaGreatDoor
open Go.RowKit
set_option maxRecDepth 100000
theorem puts_hit (z : Nat → Value) (idx : Nat → Nat) (val T : Nat → Value) (x : Nat) : ∀ m, (∀ j, j < m → val j = T (idx j)) → ((∃ j, j < m ∧ idx j = x) ∨ z x = T x) → puts z idx val m x = T x
  | 0, _, h => by
    rcases h with ⟨j, hj, _⟩ | h
    · omega
    · exact h
  | m + 1, hv, h => by
    rw [puts, updV]
    by_cases e : x = idx m
    · rw [if_pos e, hv m (by omega), e]
    · rw [if_neg e]
      refine puts_hit z idx val T x m (fun j hj => hv j (by omega)) ?_
      rcases h with ⟨j, hj, hx⟩ | h
      · refine .inl ⟨j, ?_, hx⟩
        by_cases e2 : j = m
        · subst e2; exact absurd hx.symm e
        · omega
      · exact .inr h
theorem knL_lt (h : Nat → Bool) (k : Nat) : ∀ n, (knL h k n).Pairwise (· < ·)
  | 0 => by simp [knL]
  | n + 1 => by
    rw [knL]
    split
    · refine List.pairwise_append.2 ⟨knL_lt h k n, by simp, fun a ha b hb => ?_⟩
      simp at hb; rw [hb]; exact (knL_mem h k n a ha).1
    · exact knL_lt h k n
theorem gt_lt (l : List Nat) (hl : l.Pairwise (· < ·)) (i j : Nat) (hij : i < j) (hj : j < l.length) : gt l i < gt l j := by
  unfold gt
  rw [List.getD_eq_getElem?_getD, List.getD_eq_getElem?_getD, List.getElem?_eq_getElem hj, List.getElem?_eq_getElem (by omega : i < l.length)]
  exact List.pairwise_iff_getElem.1 hl i j (by omega) hj hij
theorem gt_of_mem (l : List Nat) (x : Nat) (h : x ∈ l) : ∃ j, j < l.length ∧ gt l j = x := by
  obtain ⟨j, hj, e⟩ := List.mem_iff_getElem.1 h
  refine ⟨j, hj, ?_⟩
  unfold gt
  rw [List.getD_eq_getElem?_getD, List.getElem?_eq_getElem hj]
  exact e
theorem cover (h : Nat → Bool) (k x : Nat) : ∀ n, x < n → x ∈ knL h k n ∨ x ∈ wnL h k n
  | 0, hx => by omega
  | n + 1, hx => by
    rw [knL, wnL]
    by_cases e : x = n
    · subst e
      by_cases hc : h x = true ∧ (knL h k x).length < k
      · rw [if_pos hc]; left; simp
      · rw [if_neg hc, if_neg hc]; right; simp
    · have := cover h k x n (by omega)
      by_cases hc : h n = true ∧ (knL h k n).length < k
      · rw [if_pos hc, if_pos hc]
        rcases this with h1 | h1
        · left; exact List.mem_append.2 (.inl h1)
        · right; exact h1
      · rw [if_neg hc, if_neg hc]
        rcases this with h1 | h1
        · left; exact h1
        · right; exact List.mem_append.2 (.inl h1)
/-- how many places below n are told -/
def cnt (h : Nat → Bool) : Nat → Nat
  | 0 => 0
  | n + 1 => cnt h n + (if h n = true then 1 else 0)
theorem knL_cnt (h : Nat → Bool) (k : Nat) : ∀ n, (knL h k n).length = min k (cnt h n)
  | 0 => by simp [knL, cnt]
  | n + 1 => by
    rw [knL, cnt]
    have := knL_cnt h k n
    by_cases h1 : h n = true
    · rw [if_pos h1]
      by_cases h2 : (knL h k n).length < k
      · rw [if_pos ⟨h1, h2⟩, List.length_append, this]; simp; omega
      · rw [if_neg (fun x => h2 x.2), this]; omega
    · rw [if_neg h1, if_neg (fun x => h1 x.1), this]; omega
def updB (h : Nat → Bool) (x : Nat) (b : Bool) : Nat → Bool := fun j => if j = x then b else h j
theorem cnt_all (n : Nat) : cnt (fun _ => true) n = n := by
  induction n with
  | zero => rfl
  | succ n ih => rw [cnt, ih]; rfl
theorem cnt_same (h g : Nat → Bool) : ∀ n, (∀ j, j < n → h j = g j) → cnt h n = cnt g n
  | 0, _ => rfl
  | n + 1, e => by rw [cnt, cnt, cnt_same h g n (fun j hj => e j (by omega)), e n (by omega)]
theorem cnt_upd (h : Nat → Bool) (x : Nat) : ∀ n, cnt h n ≤ cnt (updB h x false) n + 1
  | 0 => by simp [cnt]
  | n + 1 => by
    rw [cnt, cnt]
    by_cases e : n = x
    · have : cnt (updB h x false) n = cnt h n := cnt_same _ _ n (fun j hj => if_neg (by omega))
      rw [this]; split <;> omega
    · have := cnt_upd h x n
      rw [show updB h x false n = h n from if_neg e]
      omega
theorem cnt_first (h : Nat → Bool) : ∀ n, 0 < cnt h n → ∃ i, i < n ∧ h i = true ∧ ∀ j, j < i → h j = false
  | 0, p => by simp [cnt] at p
  | n + 1, p => by
    rw [cnt] at p
    by_cases q : 0 < cnt h n
    · obtain ⟨i, hi, h1, h2⟩ := cnt_first h n q; exact ⟨i, by omega, h1, h2⟩
    · have hz : cnt h n = 0 := by omega
      have h1 : h n = true := by
        by_cases e : h n = true
        · exact e
        · rw [if_neg e] at p; omega
      refine ⟨n, by omega, h1, fun j hj => ?_⟩
      have aux : ∀ m, j < m → m ≤ n → cnt h m = 0 → h j = false := by
        intro m
        induction m with
        | zero => intro hm; omega
        | succ m ih =>
          intro hm hle hc
          rw [cnt] at hc
          by_cases e : j = m
          · subst e
            by_cases e2 : h j = true
            · rw [if_pos e2] at hc; omega
            · simpa using e2
          · exact ih (by omega) (by omega) (by omega)
      exact aux n hj (Nat.le_refl _) hz
/-- ALL BLOCKS COME BACK -/
theorem filled_all (S B : Nat → ByteArray) (h : Nat → Bool) (k m c : Nat) (hkm : k + m ≤ 255) (hS : ∀ i, i < k → (S i).size = c) (hB : ∀ i, i < k + m → h i = true → B i = allS S k c i) (hK : (knL h k (k + m)).length = k) (x : Nat) (hx : x < k + m) :
    filled B (gt (knL h k (k + m))) (gt (wnL h k (k + m))) k (wnL h k (k + m)).length c x = .string (allS S k c x) := by
  have hkn : ∀ i, i < k → B (gt (knL h k (k + m)) i) = allS S k c (gt (knL h k (k + m)) i) := fun i hi => by
    have := knL_mem h k (k + m) _ (gt_mem (knL h k (k + m)) i (by rw [hK]; exact hi)); exact hB _ this.1 this.2
  have hlt : ∀ i, i < k → gt (knL h k (k + m)) i < 256 := fun i hi => by
    have := knL_mem h k (k + m) _ (gt_mem (knL h k (k + m)) i (by rw [hK]; exact hi)); omega
  have hne : ∀ i j, i < k → j < k → i ≠ j → gt (knL h k (k + m)) i ≠ gt (knL h k (k + m)) j := fun i j hi hj e => by
    rcases Nat.lt_or_gt_of_ne e with e | e
    · have := gt_lt _ (knL_lt h k (k + m)) i j e (by rw [hK]; exact hj); omega
    · have := gt_lt _ (knL_lt h k (k + m)) j i e (by rw [hK]; exact hi); omega
  unfold filled
  refine puts_hit _ _ _ (fun x => .string (allS S k c x)) x _ (fun j hj => ?_) ?_
  · have hq : gt (wnL h k (k + m)) j < 256 := by have := wnL_mem h k (k + m) _ (gt_mem (wnL h k (k + m)) j hj); omega
    exact congrArg Value.string (vl_back S k c (gt (knL h k (k + m))) (gt (wnL h k (k + m))) j _ (by omega) hS hq hlt hne hkn)
  · rcases cover h k x (k + m) hx with h1 | h1
    · right
      refine puts_hit _ _ _ (fun x => .string (allS S k c x)) x _ (fun j hj => congrArg Value.string (hkn j hj)) (.inl ?_)
      obtain ⟨j, hj, e⟩ := gt_of_mem _ _ h1
      exact ⟨j, by rw [hK] at hj; exact hj, e⟩
    · left; exact gt_of_mem _ _ h1
end Go.Proofs.YtadinjaocnlglaaGreatDoor
