/-
  The walk of stripe.fill.
-/
import Derived.Test.YtbjgchlckmecaaaDoorS12
import Derived.WalkKit
import Derived.WalkSpells
import Derived.WalkLawsBesides
import Derived.BigRegion
import Derived.BigQuiet
import Derived.Deep.QuietTactic
import Derived.Deep.RegionWith
import Derived.Deep.RegionHeld3
namespace Go.Proofs.YtbjgchlckmecaaaDoor
open Go.RowKit
set_option maxRecDepth 100000
/-- values put at places, one behind the other -/
def puts (z : Nat → Value) (idx : Nat → Nat) (val : Nat → Value) : Nat → Nat → Value
  | 0 => z
  | j + 1 => updV (puts z idx val j) (idx j) (val j)
/-- the blocks that come out of fill -/
def filled (S : Nat → ByteArray) (p q : Nat → Nat) (k m c : Nat) : Nat → Value :=
  puts (puts (fun _ => .string ⟨#[]⟩) p (fun i => .string (S (p i))) k) q (tI (vl p q k c fun i => S (p i))) m
/-- all blocks but one are as they were -/
def Same (a : Nat) (w w' : World) : Prop := ∀ k, k ≠ a → w'.heap[k]? = w.heap[k]?
theorem Same.put {a : Nat} {w w' : World} (h : Same a w w') (i : Nat) (v : Value) : Same a w (w'.setCell ⟨a, i, none⟩ v) := fun k hk => (heap_setCell_other w' ⟨a, i, none⟩ k v hk).trans (h k hk)
theorem Same.rw {a : Nat} {w w' : World} (h : Same a w w') {g n : Nat} {t : TypeId} {f : Nat → Value} (r : Rw w g n t f) (hg : g ≠ a) : Rw w' g n t f := by
  unfold Rw; rw [h g hg]; exact r
theorem Same.cl {a : Nat} {w w' : World} (h : Same a w w') {b n : Nat} {v : Nat → Value} (r : Cl w b n v) (hb : b ≠ a) : Cl w' b n v := fun i hi => (World.cell?_of_block (a := ⟨b, i, none⟩) (h b hb)).trans (r i hi)
set_option maxHeartbeats 1000000 in
theorem fill_any (S : Nat → ByteArray) (p q : Nat → Nat) (n k m c b cap b1 cap1 : Nat) (v2 : Value) (w : World) (hn : n ≤ 1000) (hk0 : 0 < k) (hk : k ≤ n) (hm : m ≤ n) (hn2 : n ≤ 256) (hc : c ≤ 140737488351232) (hS : ∀ i, i < k → (S (p i)).size = c) (hp : ∀ i, i < k → p i < n) (hq : ∀ i, i < m → q i < n)
    (hb : b < w.heap.size) (hb1 : b1 < w.heap.size) (hC : Cl w b n (tI S)) (h1 : Cl w b1 k (pI p)) (h2 : Pts w v2 m q) :
    Calls Tryd.prog 37 #[.slice (some ⟨b, 0, none⟩) n cap, .slice (some ⟨b1, 0, none⟩) k cap1, v2] w fun e w' => e = .returned (.slice (some ⟨w.heap.size, 0, none⟩) n n) ∧ Rw w' w.heap.size n 9 (filled S p q k m c) ∧ Below w.heap.size w w' := by
  have HS : Hid _ := hS
  have HP : Hid _ := hp
  have HQ : Hid _ := hq
  have HC : Hid _ := hC
  have H1 : Hid _ := h1
  have H2 : Hid _ := h2
  clear hS hp hq hC h1 h2
  have hmk := run_make_row' (P := Tryd.prog) 31 9 (.string ⟨#[]⟩) 16 Tryd.underlying31 info9 rfl .i64 .i64 n (by omega) (by omega)
  have hmk2 := run_make_row' (P := Tryd.prog) 31 9 (.string ⟨#[]⟩) 16 Tryd.underlying31 info9 rfl .i64 .i64 k (by omega) (by omega)
  go_enter Tryd.func37, Tryd.ntmps37
  go_wp2
  go_loopw [21] (fun iv wr => ∃ i : Nat, i ≤ k ∧ iv = .int .i64 i ∧ Below w.heap.size w wr ∧ Rw wr w.heap.size n 9 (puts (fun _ => .string ⟨#[]⟩) p (fun i => .string (S (p i))) i) ∧ Rw wr (w.heap.size + 1) k 9 (part' i (tI fun i => S (p i)) (.string ⟨#[]⟩))) (fun iv _ => k - (intOf iv).toNat)
  case atStart =>
    refine ⟨0, by omega, rfl, ((Below.refl _ _).alloc (Nat.le_refl _) _).alloc (by simp) _, (Rw.made w n 9 (.string ⟨#[]⟩)).alloc _, ?_⟩
    have := Rw.made (w.alloc (.cells (madeCells #[.string ⟨#[]⟩] n) 9)) k 9 (.string ⟨#[]⟩)
    have e : (w.alloc (.cells (madeCells #[.string ⟨#[]⟩] n) 9)).heap.size = w.heap.size + 1 := by simp
    rw [e] at this
    exact this.to (fun j _ => (part_0 _ _ j).symm)
  case round =>
    obtain ⟨i, hi, rfl, hbl, hA, hK⟩ := hrel
    by_cases hlt : i < k
    · have hpi := HP.out i hlt
      have c1 : wr.cell? ⟨b1, i, none⟩ = some (.int .i64 ((p i : Nat) : Int)) := Cl.below H1.out hbl hb1 i hlt
      have c2 : wr.cell? ⟨b, p i, none⟩ = some (.string (S (p i))) := Cl.below HC.out hbl hb (p i) hpi
      have c3 := hK.cell i hlt
      have c4 := hK.free i
      have hsz : (S (p i)).size ≤ 140737488351232 := by rw [HS.out i hlt]; exact hc
      have hpi2 : ((p i : Nat) : Int) < (n : Int) := by omega
      have hbw : b ≠ w.heap.size + 1 := by omega
      obtain ⟨x, hx⟩ : ∃ x, x = p i := ⟨_, rfl⟩
      rw [← hx] at c1 c2 hsz hpi2
      have HX : Hid _ := hx
      clear hx
      have c5 : (wr.setCell ⟨w.heap.size + 1, i, none⟩ (.string (S x))).cell? ⟨b, x, none⟩ = some (.string (S x)) :=
        (World.cell?_of_block (a := ⟨b, x, none⟩) (heap_setCell_other wr ⟨w.heap.size + 1, i, none⟩ b (.string (S x)) hbw)).trans c2
      go_wp2_with fail
      refine (sclone_any (S x) _ hsz).mono ?_
      rintro e w3 ⟨rfl, hB3⟩
      have hbz := hbl.size
      have hK3 : Rw w3 (w.heap.size + 1) k 9 (part' (i + 1) (tI fun i => S (p i)) (.string ⟨#[]⟩)) := ((hK.put i (.string (S x))).to (fun j _ => by rw [← part_step, HX.out]; rfl)).below hB3 ((hK.put i (.string (S x))).lt)
      have hA3 : Rw w3 w.heap.size n 9 (puts (fun _ => .string ⟨#[]⟩) p (fun i => .string (S (p i))) i) := (hA.other ⟨w.heap.size + 1, i, none⟩ (.string (S x)) (by simp)).below hB3 ((hA.other ⟨w.heap.size + 1, i, none⟩ (.string (S x)) (by simp)).lt)
      have hb3 : Below w.heap.size w w3 := (hbl.setCell (p := ⟨w.heap.size + 1, i, none⟩) (by simp) (.string (S x))).trans (hB3.mono (by simpa [World.setCell] using hbz))
      have c6 := hA3.cell x (by rw [HX.out]; exact hpi)
      have c7 := hA3.free x
      clear hB3 hbl hA hK c1 c2 c3 c4 c5
      go_wp2
      go_roundw
      case rel => exact ⟨i + 1, by omega, by go_num, hb3.setCell (Nat.le_refl _) _, by rw [HX.out]; exact hA3.put (p i) _, hK3.other _ _ (by simp)⟩
      case measure => simp [intOf]; omega
    · have e : i = k := by omega
      subst e
      have hK' : Cl wr (w.heap.size + 1) i (tI fun i => S (p i)) := (hK.to (fun j hj => by simp [part', hj])).cl
      have hf : Pts wr (.slice (some ⟨b1, 0, none⟩) i cap1) i p := .inr ⟨b1, cap1, rfl, Nat.lt_of_lt_of_le hb1 hbl.size, Cl.below H1.out hbl hb1⟩
      have ht : Pts wr v2 m q := Pts.below H2.out hbl
      have hkl := hK.lt
      have HK : Hid _ := hK'
      have HF : Hid _ := hf
      have HT : Hid _ := ht
      clear hK' hf ht hK
      go_wp2_with fail
      refine (values_any p q (fun i => S (p i)) i m c (w.heap.size + 1) i _ v2 wr hk0 (by omega) (by omega) hc HS.out (fun j hj => by have := HP.out j hj; omega) (fun j hj => by have := HQ.out j hj; omega) hkl HK.out HF.out HT.out).mono ?_
      rintro e w3 ⟨g, rfl, hg, hV3, hB3⟩
      have hA3 := hA.below hB3 hA.lt
      have hT3 := Pts.below HT.out hB3
      have hb3 := hbl.trans (hB3.mono hbl.size)
      have hgw : w.heap.size < g := by have := hbl.size; omega
      have HT3 : Hid _ := hT3
      clear hT3 HK HF HT hB3 hbl hA
      obtain ⟨b2, hb2, cap2, hv2⟩ : ∃ b2, b2 < w.heap.size ∧ ∃ cap2, (m = 0 ∨ (v2 = .slice (some ⟨b2, 0, none⟩) m cap2 ∧ Cl w3 b2 m (pI q))) := by
        rcases H2.out with ⟨_, h⟩ | ⟨b2, cap2, h, hl, hcl⟩
        · exact ⟨b, hb, 0, .inl h⟩
        · exact ⟨b2, hl, cap2, .inr ⟨h, Cl.below hcl hb3 hl⟩⟩
      have HV2 : Hid _ := hv2
      clear hv2
      go_wp2
      go_loopw [47] (fun jv wr => ∃ j : Nat, j ≤ m ∧ jv = .int .i64 j ∧ Below w.heap.size w wr ∧ Same w.heap.size w3 wr ∧ Rw wr w.heap.size n 9 (puts (puts (fun _ => .string ⟨#[]⟩) p (fun i => .string (S (p i))) i) q (tI (vl p q i c fun i => S (p i))) j)) (fun jv _ => m - (intOf jv).toNat)
      case atStart => exact ⟨0, by omega, rfl, hb3, fun _ _ => rfl, hA3⟩
      case round =>
        obtain ⟨j, hj, rfl, hbj, hsm, hA⟩ := hrel
        by_cases hlj : j < m
        · rcases HV2.out with h0 | ⟨hv, hcl⟩
          · omega
          · subst hv
            have hqj := HQ.out j hlj
            have c1 : wr.cell? ⟨g, j, none⟩ = some (.string (vl p q i c (fun i => S (p i)) j)) := (hsm.rw hV3 (by omega)).cell j hlj
            have c2 : wr.cell? ⟨b2, j, none⟩ = some (.int .i64 ((q j : Nat) : Int)) := hsm.cl hcl (by omega) j hlj
            have c3 := hA.cell (q j) hqj
            have c4 := hA.free (q j)
            have hq2 : ((q j : Nat) : Int) < (n : Int) := by omega
            have HA : Hid _ := hA
            have HSM : Hid _ := hsm
            clear hcl hsm hA hV3 hA3
            go_wp2
            go_roundw
            case rel => exact ⟨j + 1, by omega, by go_num, hbj.setCell (Nat.le_refl _) _, Same.put HSM.out (q j) _, Rw.put HA.out (q j) _⟩
            case measure => simp [intOf]; omega
        · have e : j = m := by omega
          subst e
          go_wp2
          go_ret
          exact ⟨rfl, hA, hbj⟩
end Go.Proofs.YtbjgchlckmecaaaDoor
