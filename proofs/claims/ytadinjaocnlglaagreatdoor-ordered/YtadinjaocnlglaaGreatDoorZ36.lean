/-
  The walk of vaultref's volume.
-/
import Derived.Test.YtadinjaocnlglaaGreatDoorZ32
import Derived.Test.YtadinjaocnlglaaGreatDoorZ24
namespace Go.Proofs.YtadinjaocnlglaaGreatDoor
open Go.RowKit
set_option maxRecDepth 100000
set_option maxHeartbeats 2000000
theorem jT_snoc (F : Nat → ByteArray) (n : Nat) : jT F (n + 1) = jT F n ++ F n := by
  apply ByteArray.ext
  simp [jT, jL, List.range_succ]
theorem jT_0 (F : Nat → ByteArray) : jT F 0 = ⟨#[]⟩ := by simp [jT, jL]
theorem app_nil (A : ByteArray) : A ++ (⟨#[]⟩ : ByteArray) = A := ByteArray.ext (by simp)
theorem rvolume_any (kt : Nat → Int) (K M C V v n cL cB : Nat) (l root : ByteArray) (aL aB : Option Addr) (L B : Nat → ByteArray) (w : World) (hV : 0 < V) (hV2 : V ≤ 1000) (hv : v < V) (hn : n ≤ 100000)
    (hl : l.size ≤ 1000000000) (hr : root.size ≤ 32) (hL : ∀ i, i < n → (L i).size ≤ 32) (hB : ∀ i, i < n → (B i).size ≤ 1000000) (hG : Gr kt w) (hIL : Ins w aL n L) (hIB : Ins w aB n B) :
    Calls Tryz.prog 194 #[.agg #[.int .i64 K, .int .i64 M, .int .i64 C, .int .i64 V], .string l, .string root, .slice aL n cL, .slice aB n cB, .int .i64 v] w fun e w' => e = .returned (.string (volT (ofT kt) root l n L B V v)) ∧ Below w.heap.size w w' := by
  have h1 : v * n ≤ 100000000 := Nat.le_trans (Nat.mul_le_mul (Nat.le_trans (Nat.le_of_lt hv) hV2) hn) (by omega)
  have h2 : (v + 1) * n ≤ 200000000 := Nat.le_trans (Nat.mul_le_mul (show v + 1 ≤ 1000 by omega) hn) (by omega)
  have h3 : (v + 1) * n / V ≤ n := by
    rw [Nat.div_le_iff_le_mul_add_pred hV]
    have : (v + 1) * n ≤ V * n := Nat.mul_le_mul_right n (by omega)
    omega
  have h4 : v * n / V ≤ (v + 1) * n / V := Nat.div_le_div_right (Nat.mul_le_mul_right n (by omega))
  have HT : Hid (∀ T, volT (ofT kt) root l n L B V v = T → toldT root l n L v ++ ofT kt (⟨#[3]⟩ ++ toldT root l n L v) ++ jT (fun i => B (v * n / V + i)) ((v + 1) * n / V - v * n / V) = T) := fun T h => h
  obtain ⟨T, hT⟩ : ∃ T, volT (ofT kt) root l n L B V v = T := ⟨_, rfl⟩
  have HTT : Hid _ := HT.out T hT
  rw [hT]
  clear hT HT
  obtain ⟨p, hp⟩ : ∃ p, v * n = p := ⟨_, rfl⟩
  obtain ⟨p2, hp2⟩ : ∃ p2, (v + 1) * n = p2 := ⟨_, rfl⟩
  have e1 : (v : Int) * (n : Int) = ((p : Nat) : Int) := by rw [← hp]; simp
  have e2 : ((v : Int) + 1) * (n : Int) = ((p2 : Nat) : Int) := by rw [← hp2]; simp
  have hV0 : ((V : Int) == 0) = false := by simp; omega
  rw [hp] at h1 h4 HTT
  rw [hp2] at h2 h3 h4 HTT
  clear hp hp2
  have d1 := wrap_div p V (by omega)
  have d2 := wrap_div p2 V (by omega)
  obtain ⟨q, hq⟩ : ∃ q, p / V = q := ⟨_, rfl⟩
  obtain ⟨q2, hq2⟩ : ∃ q2, p2 / V = q2 := ⟨_, rfl⟩
  rw [hq] at d1 h4 HTT
  rw [hq2] at d2 h3 h4 HTT
  have HIL : Hid _ := hIL
  have HIB : Hid _ := hIB
  have HL : Hid _ := hL
  have HB : Hid _ := hB
  have HG : Hid _ := hG
  clear hIL hIB hL hB hG
  have s1 : ((⟨#[86, 79, 76, 49]⟩ : ByteArray) ++ root).size ≤ 36 := by rw [ByteArray.size_append]; have : (⟨#[86, 79, 76, 49]⟩ : ByteArray).size = 4 := rfl; omega
  have s2 : ((⟨#[86, 79, 76, 49]⟩ : ByteArray) ++ root ++ l).size ≤ 1000000036 := by rw [ByteArray.size_append]; omega
  have s3 := vint_size v
  have HV : Hid _ := fun W => rvint_any v W (by omega)
  have HBX : Hid (Below w.heap.size w (w.alloc (.cells #[.int .i64 K, .int .i64 M, .int .i64 C, .int .i64 V] 23))) := (Below.refl _ _).alloc (Nat.le_refl _) _
  go_enter Tryz.func194, Tryz.ntmps194
  go_wp2_with fail
  refine Calls.mono (HV.out _) ?_
  rintro e w1 ⟨rfl, hb1⟩
  have c3 : w1.cell? ⟨w.heap.size, 3, none⟩ = some (.int .i64 V) := (hb1.cell (p := ⟨w.heap.size, 3, none⟩) (by simp)).trans (cell_of_row _ _ _ _ 23 _ (heap_alloc_new w _))
  have HB1 : Hid (Below w.heap.size w w1) := HBX.out.trans (hb1.mono HBX.out.size)
  have hlt0 : w.heap.size < w1.heap.size := Nat.lt_of_lt_of_le (by simp) hb1.size
  clear hb1
  obtain ⟨A, hA⟩ : ∃ A, (⟨#[86, 79, 76, 49]⟩ : ByteArray) ++ root ++ l ++ vint v = A := ⟨_, rfl⟩
  have hAs : A.size ≤ 1000000041 := by rw [← hA, ByteArray.size_append]; omega
  have HTD : Hid (toldT root l n L v = A ++ jT L n) := by
    show volM ++ root ++ l ++ vint v ++ jT L n = _
    rw [← hA]; rfl
  rw [HTD.out] at HTT
  clear HTD
  have HA : Hid _ := hA
  go_wp2_with fail
  clear hA s1 s2 s3
  have HJ : Hid (∀ i, i ≤ n → (A ++ jT L i).size ≤ 1003200041) := fun i hi => by
    rw [ByteArray.size_append]
    have := jT_size L 32 i (fun j hj => HL.out j (by omega))
    omega
  go_loop [13, 14] (fun sv iv => ∃ i : Nat, i ≤ n ∧ iv = .int .i64 i ∧ sv = .string (A ++ jT L i)) (fun _ iv => n - (intOf iv).toNat)
  case atStart => exact ⟨0, by omega, rfl, by rw [jT_0, app_nil]⟩
  case round =>
    obtain ⟨i, hi, rfl, rfl⟩ := hrel
    have j1 := HJ.out i hi
    by_cases hlt : i < n
    · obtain ⟨bb, ha, hbb, hc⟩ := HIL.out i hlt
      subst ha
      have c1 : w1.cell? ⟨bb, i, none⟩ = some (.string (L i)) := (HB1.out.cell (p := ⟨bb, i, none⟩) hbb).trans hc
      have hLi := HL.out i hlt
      have HS : Hid (jT L (i + 1) = jT L i ++ L i) := jT_snoc L i
      go_wp2
      go_round
      case rel => exact ⟨i + 1, by omega, by go_num, by rw [HS.out, ByteArray.append_assoc]⟩
      case measure => simp [intOf]; omega
    · have e : i = n := by omega
      subst e
      obtain ⟨td, htd⟩ : ∃ td, A ++ jT L i = td := ⟨_, rfl⟩
      rw [htd] at j1 HTT ⊢
      clear htd HJ HA
      have hsz : ((⟨#[3]⟩ : ByteArray) ++ td).size ≤ 1003200042 := by rw [ByteArray.size_append]; have : (⟨#[3]⟩ : ByteArray).size = 1 := rfl; omega
      have H : Hid _ := rdigest_any kt (⟨#[3]⟩ ++ td) w1 (by omega) (HG.out.below HB1.out)
      have hds : (ofT kt (⟨#[3]⟩ ++ td)).size ≤ 32 := Nat.le_of_eq (ofT_size kt _)
      go_wp2_with fail
      refine Calls.mono H.out ?_
      rintro e w2 ⟨rfl, hb2⟩
      obtain ⟨D, hD⟩ : ∃ D, ofT kt (⟨#[3]⟩ ++ td) = D := ⟨_, rfl⟩
      rw [hD] at hds HTT ⊢
      have c4 : w2.cell? ⟨w.heap.size, 3, none⟩ = some (.int .i64 V) := (hb2.cell (p := ⟨w.heap.size, 3, none⟩) hlt0).trans c3
      have HB2 : Hid (Below w.heap.size w w2) := HB1.out.trans (hb2.mono HB1.out.size)
      clear hb2 H hD
      go_wp2_with fail
      rw [d1]
      have hE : (td ++ D).size ≤ 1003200100 := by rw [ByteArray.size_append]; omega
      obtain ⟨E, hEE⟩ : ∃ E, td ++ D = E := ⟨_, rfl⟩
      rw [hEE] at hE HTT ⊢
      have HK : Hid (∀ j, q + j ≤ i → (E ++ jT (fun i => B (q + i)) j).size ≤ 101003200100) := fun j hj => by
        rw [ByteArray.size_append]
        have := jT_size (fun i => B (q + i)) 1000000 j (fun k hk => HB.out _ (by omega))
        omega
      clear hEE d1
      go_loop [13, 15] (fun sv iv => ∃ j : Nat, q + j ≤ q2 ∧ iv = .int .i64 ((q + j : Nat) : Int) ∧ sv = .string (E ++ jT (fun i => B (q + i)) j)) (fun _ iv => q2 - (intOf iv).toNat)
      case atStart => exact ⟨0, by omega, rfl, by rw [jT_0, app_nil]⟩
      case round =>
        obtain ⟨j, hj, rfl, rfl⟩ := hrel
        have j2 := HK.out j (by omega)
        obtain ⟨r, hr2⟩ : ∃ r, q + j = r := ⟨_, rfl⟩
        have HR2 : Hid (q + j = r) := hr2
        rw [hr2] at hj ⊢
        clear hr2
        by_cases hlt2 : r < q2
        · obtain ⟨bb, ha, hbb, hc⟩ := HIB.out r (by omega)
          subst ha
          have c5 : w2.cell? ⟨bb, r, none⟩ = some (.string (B r)) := (HB2.out.cell (p := ⟨bb, r, none⟩) hbb).trans hc
          have hBi := HB.out r (by omega)
          have HS : Hid (jT (fun i => B (q + i)) (j + 1) = jT (fun i => B (q + i)) j ++ B r) := by
            show jT (fun i => B (q + i)) (j + 1) = _
            rw [jT_snoc, HR2.out]
          have hg2 : (r : Int) < wrap64 ((p2 : Int) / (V : Int)) := by rw [d2]; omega
          have hri : (r : Int) < (i : Int) := by omega
          obtain ⟨G, hGG⟩ : ∃ G, E ++ jT (fun i => B (q + i)) j = G := ⟨_, rfl⟩
          have HGG : Hid (E ++ jT (fun i => B (q + i)) j = G) := hGG
          rw [hGG] at j2 ⊢
          clear hGG
          go_wp2
          go_round
          case rel => exact ⟨j + 1, by have := HR2.out; omega, by rw [← HR2.out]; go_num, by rw [HS.out, ← HGG.out, ByteArray.append_assoc]⟩
          case measure => simp [intOf]; omega
        · have hg2 : ¬ ((r : Int) < wrap64 ((p2 : Int) / (V : Int))) := by rw [d2]; omega
          have e : j = q2 - q := by have := HR2.out; omega
          rw [← e] at HTT
          clear e HR2
          go_wp2
          go_ret
          have hf := HTT.out
          clear HTT
          subst hf
          exact ⟨rfl, HB2.out⟩
end Go.Proofs.YtadinjaocnlglaaGreatDoor
