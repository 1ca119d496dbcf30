/-
  The walk of layout.Blocks.
  The walks of strings.Join without a separator, and of layout.Volumes.
  The walk of layout.Volumes.
  The walk of layout.Volumes, where there is no block.
-/
import Derived.Test.YtadinjaocnlglaaGreatDoorZ15
import Derived.Deep.RegionLaw
namespace Go.Proofs.YtadinjaocnlglaaGreatDoor
open Go.RowKit
set_option maxRecDepth 100000
set_option maxHeartbeats 2000000
/-- zeros -/
def zerT (c : Nat) : ByteArray := ⟨(Lib.repeatL [0] c).toArray⟩
theorem zerT_size (c : Nat) : (zerT c).size = c := by
  show (Lib.repeatL [0] c).toArray.size = c
  simp [Lib.repeatL_length]
/-- the stream that begins with this data -/
def strm (z : Nat) (s : ByteArray) : ByteArray := s ++ zerT (nst z s.size * z - s.size)
theorem nst_le (z len : Nat) (hz : 0 < z) : len ≤ nst z len * z := by
  unfold nst
  have h1 := Nat.div_add_mod (len + z - 1) z
  have h2 := Nat.mod_lt (len + z - 1) hz
  rw [Nat.mul_comm] at h1
  omega
theorem nst_len (z len : Nat) (hz : 0 < z) : nst z len ≤ len := by
  unfold nst
  rcases Nat.eq_zero_or_pos len with h | h
  · subst h; rw [Nat.div_eq_of_lt (by omega)]; omega
  · apply Nat.div_le_of_le_mul
    obtain ⟨z', rfl⟩ : ∃ z', z = z' + 1 := ⟨z - 1, by omega⟩
    obtain ⟨l', rfl⟩ : ∃ l', len = l' + 1 := ⟨len - 1, by omega⟩
    rw [Nat.succ_mul, Nat.mul_succ]
    omega
theorem strm_size (z : Nat) (s : ByteArray) (hz : 0 < z) : (strm z s).size = nst z s.size * z := by
  unfold strm
  rw [ByteArray.size_append, zerT_size]
  have := nst_le z s.size hz
  omega
/-- the blocks of data of the i-th stripe -/
def dat (t : ByteArray) (z C i : Nat) : Nat → ByteArray := fun j => pc (pc t z i) C j
/-- the blocks of so many stripes -/
def blkV (t : ByteArray) (z K M C : Nat) : Nat → List Value
  | 0 => []
  | i + 1 => blkV t z K M C i ++ whl (dat t z C i) K M C
theorem whl_len (S : Nat → ByteArray) (k m c : Nat) : (whl S k m c).length = k + m := by simp [whl, tV]
theorem whl_one (S : Nat → ByteArray) (k m c : Nat) : ∀ u ∈ whl S k m c, u.oneCell' = true := by
  intro u hu
  rcases List.mem_append.1 hu with h | h
  · exact tV_one _ _ u h
  · exact tV_one _ _ u h
theorem own_cellsAdd {w : World} {B : Nat} {v : Value} {n : Nat} {xs : List Value} (h : w.ownsRow B 9 1 v n xs) (h0 : 0 < n) : ∃ g cap, v = .slice (some ⟨g, 0, none⟩) n cap ∧ B ≤ g ∧ ∀ j u, xs[j]? = some u → w.cell? ((⟨g, 0, none⟩ : Addr).add j) = some u := by
  have hl := h.1
  rcases h.2 with ⟨_, h1⟩ | ⟨g, cap, cur, hv, hg, rest⟩
  · omega
  · refine ⟨g, cap, hv, hg, fun j u hu => ?_⟩
    subst hv
    have hj : j < n := by have := (List.getElem?_eq_some_iff.1 hu).1; omega
    have e : (⟨g, 0, none⟩ : Addr).add j = ⟨g, j, none⟩ := by cases j with
      | zero => rfl
      | succ j => simp [Addr.add]
    rw [e, h.cellAt j (by omega), hu]
theorem blocks_any (K M C V z : Nat) (s : ByteArray) (w : World) (hz : K * C = z) (hK1 : 1 ≤ K) (hC1 : 1 ≤ C) (hKM : K + M ≤ 255) (hC : C ≤ 1000) (hz1 : z ≤ 100000) (hs : s.size ≤ 100000) :
    Calls Tryz.prog 156 #[.agg #[.int .i64 K, .int .i64 M, .int .i64 C, .int .i64 V], .string s] w fun e w' => ∃ v, e = .returned v ∧ w'.ownsRow w.heap.size 9 1 v (nst z s.size * (K + M)) (blkV (strm z s) z K M C (nst z s.size)) ∧ Below w.heap.size w w' ∧ (nst z s.size = 0 → v = .slice none 0 0) := by
  have hz0 : 0 < z := by rw [← hz]; exact Nat.mul_pos hK1 hC1
  have H44 : Hid (∀ W, _) := fun W => countStripes_any K M C V s.size z W hz hz0 hz1 hs
  have hns : nst z s.size ≤ 100000 := Nat.le_trans (nst_len z s.size hz0) hs
  have hle := nst_le z s.size hz0
  have HSZ : Hid _ := strm_size z s hz0
  have HTE : Hid (strm z s = s ++ zerT (nst z s.size * z - s.size)) := rfl
  obtain ⟨n, hn⟩ : ∃ n, nst z s.size = n := ⟨_, rfl⟩
  rw [hn] at H44 hns hle HSZ HTE ⊢
  clear hn
  have hnz : n * z ≤ 20000000000 := Nat.le_trans (Nat.mul_le_mul hns hz1) (by omega)
  obtain ⟨r, hr⟩ : ∃ r, n * z = r := ⟨_, rfl⟩
  have e1 : (n : Int) * (z : Int) = (r : Int) := by rw [← hr]; simp
  rw [hr] at hnz hle HSZ HTE
  have HNR : Hid (n * z = r) := hr
  have e2 : (r : Int) - (s.size : Int) = ((r - s.size : Nat) : Int) := by omega
  have HE2 : Hid _ := e2
  have ez : (K : Int) * (C : Int) = (z : Int) := by rw [← hz]; simp
  have HZ : Hid _ := hz
  clear hz hr e2
  obtain ⟨i0, hi9, hy0, hy1, hy2⟩ := info_parts info9
  go_enter Tryz.func156, Tryz.ntmps156
  go_wp2_with fail
  obtain ⟨s0, hs0⟩ : ∃ s0, s0 = w.alloc (Obj.cells #[Value.int IntKind.i64 K, Value.int IntKind.i64 M, Value.int IntKind.i64 C, Value.int IntKind.i64 V] 23) := ⟨_, rfl⟩
  have HX0 : Hid (s0.heap[w.heap.size]? = some (.cells #[.int .i64 K, .int .i64 M, .int .i64 C, .int .i64 V] 23 (0, 0))) := by
    show _ = _
    rw [hs0]; exact heap_alloc_new _ _
  have HB0 : Hid (Below w.heap.size w s0) := by show Below _ _ _; rw [hs0]; exact (Below.refl _ _).alloc (Nat.le_refl _) _
  rw [← hs0]
  clear hs0
  obtain ⟨x, hx⟩ : ∃ x, x = w.heap.size := ⟨_, rfl⟩
  rw [← hx] at HX0 ⊢
  have HX : Hid _ := hx
  clear hx
  have hx0 : x < s0.heap.size := (Array.getElem?_eq_some_iff.1 HX0.out).1
  refine Calls.mono (H44.out s0) ?_
  rintro e s1 ⟨rfl, hb1⟩
  have HB1 : Hid (Below s0.heap.size s0 s1) := hb1
  clear hb1 H44
  go_wp2_with fail
  rw [HE2.out]
  refine (repeat_any ⟨#[0]⟩ (r - s.size) s1 (by omega) (by show 1 * _ ≤ _; omega)).mono ?_
  rintro e s2 ⟨rfl, hb2⟩
  have HB2 : Hid (Below s0.heap.size s0 s2) := HB1.out.trans (hb2.mono HB1.out.size)
  clear hb2 HB1
  have hzt : (⟨(Lib.repeatL (⟨#[0]⟩ : ByteArray).data.toList (r - s.size)).toArray⟩ : ByteArray) = zerT (r - s.size) := rfl
  rw [hzt]
  have hzs := zerT_size (r - s.size)
  obtain ⟨zz, hzz⟩ : ∃ zz, zerT (r - s.size) = zz := ⟨_, rfl⟩
  rw [hzz] at hzs HTE ⊢
  clear hzt hzz
  have hzs2 : zz.size ≤ 20000000000 := by omega
  clear hzs
  go_wp2_with fail
  rw [← HTE.out]
  obtain ⟨t, ht⟩ : ∃ t, strm z s = t := ⟨_, rfl⟩
  have HT : Hid _ := ht
  rw [ht] at HSZ ⊢
  have HTS : Hid (t.size = n * z) := by show t.size = n * z; rw [HSZ.out, HNR.out]
  clear ht HTE
  refine (cut_any t z n s2 hz0 (by omega) (by omega) HTS.out).mono ?_
  rintro e s3 ⟨rfl, hR3, hb3⟩
  have HR3 : Hid (Rw s3 s2.heap.size n 9 (tX (pc t z))) := hR3
  have HB3 : Hid (Below s0.heap.size s0 s3) := HB2.out.trans (hb3.mono HB2.out.size)
  have hl3 : s2.heap.size < s3.heap.size := hR3.lt
  clear hR3 hb3 HB2
  obtain ⟨gp, hgp⟩ : ∃ gp, gp = s2.heap.size := ⟨_, rfl⟩
  rw [← hgp] at HR3 hl3 ⊢
  have HGP : Hid _ := hgp
  clear hgp
  go_wp2
  go_loopw [31, 7] (fun iv v wr => ∃ i L : Nat, i ≤ n ∧ iv = .int .i64 i ∧ L = i * (K + M) ∧ wr.ownsRow s3.heap.size 9 1 v L (blkV t z K M C i) ∧ Below s3.heap.size s3 wr ∧ (i = 0 → v = .slice none 0 0)) (fun iv _ _ => n - (intOf iv).toNat)
  case atStart => exact ⟨0, 0, by omega, rfl, by omega, World.ownsRow_nil _ _ _ _, Below.refl _ _, fun _ => rfl⟩
  case round =>
    obtain ⟨i, L, hi, rfl, hLe, hown, hbl, hnil⟩ := hrel
    obtain ⟨va, vc, hv⟩ := own_shape hown
    subst hv
    have HNIL : Hid _ := hnil
    clear hnil
    have hL1 : L ≤ 51000000 := by rw [hLe]; exact Nat.le_trans (Nat.mul_le_mul (Nat.le_trans hi hns) hKM) (by omega)
    have HLE : Hid _ := hLe
    have HOW : Hid (wr.ownsRow s3.heap.size 9 1 (.slice va L vc) L (blkV t z K M C i)) := hown
    have HBL : Hid (Below s3.heap.size s3 wr) := hbl
    clear hLe hown hbl
    by_cases hlt : i < n
    · have c1 : wr.cell? ⟨gp, i, none⟩ = some (.string (pc t z i)) := (HBL.out.cell (p := ⟨gp, i, none⟩) hl3).trans (HR3.out.cell i hlt)
      have HXr : Hid (wr.heap[x]? = some (.cells #[.int .i64 K, .int .i64 M, .int .i64 C, .int .i64 V] 23 (0, 0))) := by
        show _ = _
        rw [HBL.out.block x (Nat.lt_of_lt_of_le hx0 HB3.out.size), HB3.out.block x hx0]; exact HX0.out
      have p0 : wr.cell? ⟨x, 0, none⟩ = some (.int .i64 K) := cell_of_row _ _ _ _ 23 _ HXr.out
      have p1 : wr.cell? ⟨x, 1, none⟩ = some (.int .i64 M) := cell_of_row _ _ _ _ 23 _ HXr.out
      have p2 : wr.cell? ⟨x, 2, none⟩ = some (.int .i64 C) := cell_of_row _ _ _ _ 23 _ HXr.out
      have hps : (pc t z i).size = K * C := by rw [HZ.out]; exact pc_size t z n i HTS.out hlt
      have HCUT : Hid (∀ W, Calls Tryz.prog 203 #[.string (pc t z i), .int .i64 C] W fun e w' => e = .returned (.slice (some ⟨W.heap.size, 0, none⟩) K K) ∧ Rw w' W.heap.size K 9 (tX (pc (pc t z i) C)) ∧ Below W.heap.size W w') := fun W => cut_any (pc t z i) C K W hC1 (by omega) (by omega) hps
      have HWHL : Hid (∀ (W : World) (b : Nat), b < W.heap.size → Cl W b K (tI (dat t z C i)) → Calls Tryz.prog 204 #[.int .i64 K, .int .i64 M, .slice (some ⟨b, 0, none⟩) K K] W fun e w' => ∃ v, e = .returned v ∧ w'.ownsRow W.heap.size 9 1 v (K + M) (whl (dat t z C i) K M C) ∧ Below W.heap.size W w') := fun W b hb hCl => whole_any (dat t z C i) K M C b K W hK1 hKM (by omega) (fun j hj => pc_size (pc t z i) C K j hps hj) hb hCl
      have hm1 : L + (K + M) ≤ maxLen := by unfold maxLen; omega
      have hm2 : (L + (K + M)) * 16 ≤ 140737488355328 := by omega
      have hm3 : (whl (dat t z C i) K M C).length = (K + M) * 1 := by rw [whl_len]; omega
      have hm4 : 0 < K + M := by omega
      clear hps
      go_wp2
      go_region_held3 (fun w' => w'.cell? ⟨x, 0, none⟩ = some (.int .i64 K) ∧ w'.cell? ⟨x, 1, none⟩ = some (.int .i64 M) ∧ w'.cell? ⟨x, 2, none⟩ = some (.int .i64 C)) (go_keep) (first | (go_at_call 203; refine Calls.mono (HCUT.out _) ?_; rintro e r1 ⟨rfl, hRc, hbc⟩; have hB1 : Below wr.heap.size wr r1 := (by first | exact hbc | exact ((Below.refl _ _).drew).trans hbc); have hxl := block_lt_of_cell p0; have q0 : r1.cell? ⟨x, 0, none⟩ = some (.int .i64 K) := (hB1.cell (p := ⟨x, 0, none⟩) hxl).trans p0; have q1 : r1.cell? ⟨x, 1, none⟩ = some (.int .i64 M) := (hB1.cell (p := ⟨x, 1, none⟩) hxl).trans p1; have q2 : r1.cell? ⟨x, 2, none⟩ = some (.int .i64 C) := (hB1.cell (p := ⟨x, 2, none⟩) hxl).trans p2) | (go_at_call 204; refine Calls.mono (HWHL.out r1 _ hRc.lt (fun j hj => hRc.cell j hj)) ?_; rintro e r2 ⟨v2, rfl, ho2, hb2⟩; obtain ⟨g2, cap2, hv2, hg2, hc2⟩ := own_cellsAdd ho2 hm4; subst hv2; have hxl2 : x < r1.heap.size := block_lt_of_cell q0; have hB2 : Below wr.heap.size wr r2 := hB1.trans (hb2.mono hB1.size); have t0 : r2.cell? ⟨x, 0, none⟩ = some (.int .i64 K) := (hb2.cell (p := ⟨x, 0, none⟩) hxl2).trans q0; have t1 : r2.cell? ⟨x, 1, none⟩ = some (.int .i64 M) := (hb2.cell (p := ⟨x, 1, none⟩) hxl2).trans q1; have t2 : r2.cell? ⟨x, 2, none⟩ = some (.int .i64 C) := (hb2.cell (p := ⟨x, 2, none⟩) hxl2).trans q2) | (refine step_append_own rfl (.tmp 35) (.tmp 44) 42 rfl 9 i0 (.string ⟨#[]⟩) 1 16 Tryz.underlying42 hi9 hy0 hy1 hy2 rfl (by decide) s3.heap.size (.slice va L vc) L (blkV t z K M C i) (by simp [Act.eval]) (own_below HOW.out hB2) ⟨g2, 0, none⟩ (K + M) cap2 (whl (dat t z C i) K M C) (by simp [Act.eval]) hm3 hc2 (whl_one _ _ _ _) hm1 hm2 (Nat.le_trans HBL.out.size hB2.size) ?_; intro v' w' hown' hgrow; have hB3' : Below s3.heap.size s3 w' := (HBL.out.trans (hB2.mono HBL.out.size)).grown hgrow (Nat.le_trans HBL.out.size hB2.size) (fun g hg => own_ge (own_below HOW.out hB2) g hg); have hx3 : x < s3.heap.size := Nat.lt_of_lt_of_le hx0 HB3.out.size; have hXw : w'.heap[x]? = some (.cells #[.int .i64 K, .int .i64 M, .int .i64 C, .int .i64 V] 23 (0, 0)) := (by rw [hB3'.block x hx3, HB3.out.block x hx0]; exact HX0.out); have z0 : w'.cell? ⟨x, 0, none⟩ = some (.int .i64 K) := cell_of_row _ _ _ _ 23 _ hXw; have z1 : w'.cell? ⟨x, 1, none⟩ = some (.int .i64 M) := cell_of_row _ _ _ _ 23 _ hXw; have z2 : w'.cell? ⟨x, 2, none⟩ = some (.int .i64 C) := cell_of_row _ _ _ _ 23 _ hXw))
      have ho' : w'.ownsRow s3.heap.size 9 1 v' (L + (K + M)) (blkV t z K M C (i + 1)) := hown'
      clear hown' hgrow ho2 hc2 hRc
      have hnx : L + (K + M) = (i + 1) * (K + M) := by rw [Nat.succ_mul, ← HLE.out]
      have HNX : Hid _ := hnx
      clear hnx
      go_wp2
      go_roundw
      case rel => exact ⟨i + 1, L + (K + M), by omega, by go_num, HNX.out, ho', hB3', fun h => by omega⟩
      case measure => simp [intOf]; omega
    · have e : i = n := by omega
      subst e
      go_wp2
      go_ret
      have hw3 : w.heap.size ≤ s3.heap.size := Nat.le_trans HB0.out.size HB3.out.size
      refine ⟨_, rfl, ?_, ?_, HNIL.out⟩
      · have h := HOW.out
        rw [HLE.out, ← HT.out] at h
        refine ⟨h.1, ?_⟩
        rcases h.2 with h2 | ⟨g', cap', cur, hv, hg', rest⟩
        · rw [HLE.out]; exact .inl h2
        · rw [HLE.out]; exact .inr ⟨g', cap', cur, hv, Nat.le_trans hw3 hg', rest⟩
      · exact (HB0.out.trans (HB3.out.mono HB0.out.size)).trans (HBL.out.mono hw3)
end Go.Proofs.YtadinjaocnlglaaGreatDoor
namespace Go.Proofs.YtadinjaocnlglaaGreatDoor
open Go.RowKit
set_option maxRecDepth 100000
set_option maxHeartbeats 2000000
/-- texts, one behind the other -/
def jL (F : Nat → ByteArray) (n : Nat) : List UInt8 := ((List.range n).map fun i => (F i).data.toList).flatten
def jT (F : Nat → ByteArray) (n : Nat) : ByteArray := ⟨(jL F n).toArray⟩
theorem jL_len (F : Nat → ByteArray) (c : Nat) : ∀ n, (∀ i, i < n → (F i).size ≤ c) → (jL F n).length ≤ n * c
  | 0, _ => by simp [jL]
  | n + 1, h => by
    have ih := jL_len F c n (fun i hi => h i (by omega))
    have h1 := h n (by omega)
    have e : jL F (n + 1) = jL F n ++ (F n).data.toList := by simp [jL, List.range_succ]
    rw [e, List.length_append, dl, Nat.succ_mul]
    omega
theorem jT_size (F : Nat → ByteArray) (c n : Nat) (h : ∀ i, i < n → (F i).size ≤ c) : (jT F n).size ≤ n * c := by
  have := jL_len F c n h
  show (jL F n).toArray.size ≤ n * c
  simpa using this
theorem join_flat : ∀ xs : List (List UInt8), Lib.join xs [] = xs.flatten
  | [] => rfl
  | x :: r => by rw [Lib.join_cons]; simp [Lib.joinTail]
theorem sjoin_any (F : Nat → ByteArray) (b o n cap c : Nat) (w : World) (hb : b < w.heap.size) (hcap : n ≤ cap) (hn : n ≤ 1000000) (hc : c ≤ 1000000) (hF : ∀ i, i < n → (F i).size ≤ c) (hC : ∀ i, i < n → w.cell? ⟨b, o + i, none⟩ = some (.string (F i))) :
    Calls Tryz.prog 184 #[.slice (some ⟨b, o, none⟩) n cap, .string ⟨#[]⟩] w fun e w' => e = .returned (.string (jT F n)) ∧ Below w.heap.size w w' := by
  rcases Nat.eq_zero_or_pos n with h0 | h0
  · subst h0
    exact (join_none _ cap ⟨#[]⟩ w).mono fun e w' ⟨h1, h2⟩ => ⟨h1, by rw [h2]; exact Below.refl _ _⟩
  · have hl : ((List.range n).map F).length = n := by simp
    have hj : Lib.join (((List.range n).map F).map (·.data.toList)) (⟨#[]⟩ : ByteArray).data.toList = jL F n := by
      show Lib.join _ [] = _
      rw [join_flat, List.map_map]
      rfl
    have h := join_some b o cap ((List.range n).map F) ⟨#[]⟩ w (fun j x hx => by
      have hjn : j < n := by have := (List.getElem?_eq_some_iff.1 hx).1; rwa [hl] at this
      simp [hjn] at hx
      rw [← hx]; exact hC j hjn) hb (by rw [hl]; omega) (by rw [hl]; exact hcap) (by
      rw [hj]
      have h1 := jL_len F c n hF
      have h2 : n * c ≤ 1000000 * 1000000 := Nat.mul_le_mul hn hc
      omega)
    rw [hl, hj] at h
    exact h
def volM : ByteArray := ⟨#[86, 79, 76, 49]⟩
/-- what a volume tells ahead of its check -/
def toldT (root l : ByteArray) (n : Nat) (L : Nat → ByteArray) (v : Nat) : ByteArray := volM ++ root ++ l ++ vint v ++ jT L n
/-- a volume -/
def volT (D : ByteArray → ByteArray) (root l : ByteArray) (n : Nat) (L B : Nat → ByteArray) (V v : Nat) : ByteArray :=
  toldT root l n L v ++ D (⟨#[3]⟩ ++ toldT root l n L v) ++ jT (fun i => B (v * n / V + i)) ((v + 1) * n / V - v * n / V)
end Go.Proofs.YtadinjaocnlglaaGreatDoor
namespace Go.Proofs.YtadinjaocnlglaaGreatDoor
open Go.RowKit
set_option maxRecDepth 100000
set_option maxHeartbeats 2000000
theorem lstT_size (K M C V n : Nat) (Nm : Nat → ByteArray) (Ln : Nat → Nat) (hN : ∀ j, (Nm j).size ≤ 1000) (hn : n ≤ 1000) : (lstT K M C V n Nm Ln).size ≤ 2000000 := by
  have h1 := lst2_len (lst1 (num5 K M C V n) 5) Nm Ln hN n
  have h2 := lst1_len (num5 K M C V n) 5
  show (lst2 (lst1 (num5 K M C V n) 5) Nm Ln n).toArray.size ≤ 2000000
  simp only [List.size_toArray]
  omega
theorem volumes_some (kt : Nat → Int) (K M C V nE capE nB capB g : Nat) (aE : Option Addr) (Nm : Nat → ByteArray) (Ln : Nat → Nat) (Bk : Nat → ByteArray) (w : World) (hK : K ≤ 100000) (hM : M ≤ 100000) (hC : C ≤ 100000) (hV1 : 1 ≤ V) (hV : V ≤ 1000) (hnE : nE ≤ 1000)
    (hN : ∀ j, (Nm j).size ≤ 1000) (hLn : ∀ j, Ln j ≤ 100000) (hE : ∀ j, j < nE → ∃ b, aE = some ⟨b, 0, none⟩ ∧ b < w.heap.size ∧ w.cell? ⟨b, j * 2, none⟩ = some (.string (Nm j)) ∧ w.cell? ⟨b, j * 2 + 1, none⟩ = some (.int .i64 (Ln j)))
    (hnB1 : 1 ≤ nB) (hnB : nB ≤ 10000) (hcap : nB ≤ capB) (hBk : ∀ i, i < nB → (Bk i).size ≤ 1000) (hg : g < w.heap.size) (hCl : Cl w g nB (tI Bk)) (hG : Gd kt w) :
    Calls Tryz.prog 124 #[.agg #[.int .i64 K, .int .i64 M, .int .i64 C, .int .i64 V], .slice aE nE capE, .slice (some ⟨g, 0, none⟩) nB capB] w fun e w' => ∃ gv, e = .returned (.tuple #[.slice (some ⟨gv, 0, none⟩) V V, .string (rootT (ofT kt) (lstT K M C V nE Nm Ln) nB fun i => leafT (ofT kt) (Bk i))]) ∧ w.heap.size ≤ gv ∧ Rw w' gv V 9 (tX (volT (ofT kt) (rootT (ofT kt) (lstT K M C V nE Nm Ln) nB fun i => leafT (ofT kt) (Bk i)) (lstT K M C V nE Nm Ln) nB (fun i => leafT (ofT kt) (Bk i)) Bk V)) ∧ Below w.heap.size w w' := by
  have hmk := run_make_row' (P := Tryz.prog) 42 9 (.string ⟨#[]⟩) 16 Tryz.underlying42 info9 rfl .i64 .i64 V (by omega) (by omega)
  have HLS : Hid _ := lstT_size K M C V nE Nm Ln hN hnE
  have HLIST : Hid (∀ W, Below w.heap.size w W → Calls Tryz.prog 180 #[.agg #[.int .i64 K, .int .i64 M, .int .i64 C, .int .i64 V], .slice aE nE capE] W fun e w' => e = .returned (.string (lstT K M C V nE Nm Ln)) ∧ Below W.heap.size W w') := fun W hW =>
    listOf_any K M C V nE capE aE Nm Ln W hK hM hC (by omega) (by omega) hN hLn (fun j hj => by
      obtain ⟨b, h1, h2, h3, h4⟩ := hE j hj
      exact ⟨b, h1, Nat.lt_of_lt_of_le h2 hW.size, (hW.cell (p := ⟨b, j * 2, none⟩) h2).trans h3, (hW.cell (p := ⟨b, j * 2 + 1, none⟩) h2).trans h4⟩)
  have HCL : Hid (∀ W, Below w.heap.size w W → Cl W g nB (tI Bk)) := fun W hW => Cl.below hCl hW hg
  have HG : Hid (∀ W, Below w.heap.size w W → Gd kt W) := fun W hW => hG.below hW
  have HBK : Hid _ := hBk
  clear hN hLn hE hCl hG hBk
  obtain ⟨l, hl⟩ : ∃ l, lstT K M C V nE Nm Ln = l := ⟨_, rfl⟩
  rw [hl] at HLS HLIST ⊢
  clear hl
  obtain ⟨Lf, hLf⟩ : ∃ Lf : Nat → ByteArray, (fun i => leafT (ofT kt) (Bk i)) = Lf := ⟨_, rfl⟩
  have HLF : Hid (∀ i, (Lf i).size ≤ 32) := fun i => by rw [← hLf]; exact Nat.le_of_eq (ofT_size kt _)
  have HLE : Hid _ := hLf
  rw [hLf]
  clear hLf
  obtain ⟨root, hroot⟩ : ∃ root, rootT (ofT kt) l nB Lf = root := ⟨_, rfl⟩
  have hrs : root.size = 32 := by rw [← hroot]; exact ofT_size kt _
  have HRE : Hid _ := hroot
  rw [hroot]
  clear hroot
  obtain ⟨VT, hVT⟩ : ∃ VT, volT (ofT kt) root l nB Lf Bk V = VT := ⟨_, rfl⟩
  have HVT : Hid _ := hVT
  rw [hVT]
  clear hVT
  go_enter Tryz.func124, Tryz.ntmps124
  go_wp2_with fail
  obtain ⟨s0, hs0⟩ : ∃ s0, s0 = w.alloc (Obj.cells #[Value.int IntKind.i64 K, Value.int IntKind.i64 M, Value.int IntKind.i64 C, Value.int IntKind.i64 V] 23) := ⟨_, rfl⟩
  have HX0 : Hid (s0.heap[w.heap.size]? = some (.cells #[.int .i64 K, .int .i64 M, .int .i64 C, .int .i64 V] 23 (0, 0))) := by
    show _ = _
    rw [hs0]; exact heap_alloc_new _ _
  have HB0 : Hid (Below w.heap.size w s0) := by show Below _ _ _; rw [hs0]; exact (Below.refl _ _).alloc (Nat.le_refl _) _
  rw [← hs0]
  clear hs0
  obtain ⟨x, hx⟩ : ∃ x, x = w.heap.size := ⟨_, rfl⟩
  rw [← hx] at HX0 ⊢
  have HX : Hid _ := hx
  clear hx
  have hx0 : x < s0.heap.size := (Array.getElem?_eq_some_iff.1 HX0.out).1
  refine Calls.mono (HLIST.out s0 HB0.out) ?_
  rintro e s1 ⟨rfl, hb1⟩
  have HB1 : Hid (Below s0.heap.size s0 s1) := hb1
  clear hb1 HLIST
  have HW1 : Hid (Below w.heap.size w s1) := HB0.out.trans (HB1.out.mono HB0.out.size)
  go_wp2_with fail
  refine (leavesOf_any kt Bk (some ⟨g, 0, none⟩) nB capB s1 (by omega) (fun i hi => Nat.le_trans (HBK.out i hi) (by omega)) (HG.out _ HW1.out) (fun i hi => ⟨g, rfl, Nat.lt_of_lt_of_le hg HW1.out.size, HCL.out _ HW1.out i hi⟩)).mono ?_
  rintro e s2 ⟨rfl, hR2, hb2⟩
  have HB2 : Hid (Below s0.heap.size s0 s2) := HB1.out.trans (hb2.mono HB1.out.size)
  have HR2 : Hid (Rw s2 s1.heap.size nB 9 (tI Lf)) := by show Rw s2 s1.heap.size nB 9 (tI Lf); rw [← HLE.out]; exact hR2
  have HW2 : Hid (Below w.heap.size w s2) := HB0.out.trans (HB2.out.mono HB0.out.size)
  clear hR2 hb2 HB1 HW1
  have hl2 : s1.heap.size < s2.heap.size := HR2.out.lt
  obtain ⟨gl, hgl⟩ : ∃ gl, gl = s1.heap.size := ⟨_, rfl⟩
  rw [← hgl] at HR2 hl2 ⊢
  have HGL : Hid _ := hgl
  clear hgl
  go_wp2_with fail
  refine (rootOf_any kt l Lf gl nB nB s2 (by have := HLS.out; omega) (by omega) (fun i _ => HLF.out i) (HG.out _ HW2.out) hl2 (fun i hi => HR2.out.cell i hi)).mono ?_
  rintro e s3 ⟨rfl, hb3⟩
  rw [HRE.out]
  have HB3 : Hid (Below s0.heap.size s0 s3) := HB2.out.trans (hb3.mono HB2.out.size)
  have HR3 : Hid (Rw s3 gl nB 9 (tI Lf)) := HR2.out.below hb3 hl2
  have hl3 : gl < s3.heap.size := HR3.out.lt
  clear hb3 HB2 HR2 HW2 hl2
  have c3 : s3.cell? ⟨x, 3, none⟩ = some (.int .i64 V) := cell_of_row _ _ _ _ 23 _ (by rw [HB3.out.block x hx0]; exact HX0.out)
  go_wp2
  obtain ⟨s4, hs4⟩ : ∃ s4, s4 = s3.alloc (Obj.cells (madeCells #[Value.string { data := #[] }] V) 9) := ⟨_, rfl⟩
  have HRV : Hid (Rw s4 s3.heap.size V 9 (fun _ => .string ⟨#[]⟩)) := by show Rw _ _ _ _ _; rw [hs4]; exact Rw.made s3 V 9 _
  have hb34 : Below s3.heap.size s3 s4 := by rw [hs4]; exact (Below.refl _ _).alloc (Nat.le_refl _) _
  rw [← hs4]
  clear hs4 c3
  have HR4 : Hid (Rw s4 gl nB 9 (tI Lf)) := HR3.out.below hb34 hl3
  have HB4 : Hid (Below s3.heap.size s3 s4) := hb34
  clear hb34
  obtain ⟨gv, hgv⟩ : ∃ gv, gv = s3.heap.size := ⟨_, rfl⟩
  rw [← hgv] at HRV hl3 ⊢
  have HGV : Hid _ := hgv
  have hxv : x < gv := by rw [hgv]; exact Nat.lt_of_lt_of_le hx0 HB3.out.size
  have hgg : g < gv := by rw [hgv]; exact Nat.lt_of_lt_of_le hg (Nat.le_trans HB0.out.size HB3.out.size)
  clear hgv
  have HSB : Hid (Below w.heap.size w s3) := HB0.out.trans (HB3.out.mono HB0.out.size)
  go_loopw [27] (fun iv wr => ∃ v : Nat, v ≤ V ∧ iv = .int .i64 v ∧ Rw wr gv V 9 (part' v (tX VT) (.string ⟨#[]⟩)) ∧ Below gv s3 wr) (fun iv _ => V - (intOf iv).toNat)
  case atStart => exact ⟨0, by omega, rfl, HRV.out.to (fun j _ => (part_0 _ _ j).symm), by rw [HGV.out]; exact HB4.out⟩
  case round =>
    obtain ⟨v, hv, rfl, hRr, hbr⟩ := hrel
    have HRR : Hid (Rw wr gv V 9 (part' v (tX VT) (.string ⟨#[]⟩))) := hRr
    have HBR : Hid (Below gv s3 wr) := hbr
    clear hRr hbr
    have HWR : Hid (Below w.heap.size w wr) := HSB.out.trans (HBR.out.mono (by rw [HGV.out]; exact HSB.out.size))
    by_cases hlt : v < V
    · have hls := HLS.out
      have q1 : ((⟨#[86, 79, 76, 49]⟩ : ByteArray) ++ root).size ≤ 100 := by
        rw [ByteArray.size_append, hrs]
        have : (⟨#[86, 79, 76, 49]⟩ : ByteArray).size = 4 := rfl
        omega
      have q2 : ((⟨#[86, 79, 76, 49]⟩ : ByteArray) ++ root ++ l).size ≤ 3000000 := by rw [ByteArray.size_append]; omega
      have hvm : ((v : Nat) : Int) % 4294967296 = ((v : Nat) : Int) := by omega
      have hvs := vint_size v
      have q3 : ((⟨#[86, 79, 76, 49]⟩ : ByteArray) ++ root ++ l ++ vint v).size ≤ 3000100 := by rw [ByteArray.size_append]; omega
      have hjs : (jT Lf nB).size ≤ 1000000 := Nat.le_trans (jT_size Lf 32 nB (fun i _ => HLF.out i)) (by omega)
      have HTD : Hid (toldT root l nB Lf v = (⟨#[86, 79, 76, 49]⟩ : ByteArray) ++ root ++ l ++ vint v ++ jT Lf nB) := rfl
      have q4 : (toldT root l nB Lf v).size ≤ 5000000 := by rw [HTD.out, ByteArray.size_append]; omega
      go_wp2_with fail
      refine (varint_any v wr (by omega)).mono ?_
      rintro e w1 ⟨rfl, hb1⟩
      have HR1 : Hid (Rw w1 gv V 9 (part' v (tX VT) (.string ⟨#[]⟩))) := HRR.out.below hb1 HRR.out.lt
      have HB1' : Hid (Below gv s3 w1) := HBR.out.trans (hb1.mono (Nat.le_of_lt HRR.out.lt))
      clear hb1 HRR HBR HWR
      go_wp2_with fail
      refine (sjoin_any Lf gl 0 nB nB 32 w1 (Nat.lt_of_lt_of_le hl3 (Nat.le_of_lt HR1.out.lt)) (Nat.le_refl _) (by omega) (by omega) (fun i _ => HLF.out i) (fun i hi => by rw [Nat.zero_add]; exact (HB1'.out.cell (p := ⟨gl, i, none⟩) hl3).trans (HR3.out.cell i hi))).mono ?_
      rintro e w2 ⟨rfl, hb2⟩
      have HR2' : Hid (Rw w2 gv V 9 (part' v (tX VT) (.string ⟨#[]⟩))) := HR1.out.below hb2 HR1.out.lt
      have HB2' : Hid (Below gv s3 w2) := HB1'.out.trans (hb2.mono (Nat.le_of_lt HR1.out.lt))
      clear hb2 HR1 HB1'
      have c3 : w2.cell? ⟨x, 3, none⟩ = some (.int .i64 V) := cell_of_row _ _ _ _ 23 _ (by rw [HB2'.out.block x hxv, HB3.out.block x hx0]; exact HX0.out)
      go_wp2_with fail
      rw [← HTD.out]
      have hf1 : v * nB / V < nB := Nat.div_lt_of_lt_mul (Nat.mul_lt_mul_of_pos_right hlt (by omega))
      have hf2 : v * nB / V ≤ (v + 1) * nB / V := Nat.div_le_div_right (Nat.mul_le_mul_right _ (by omega))
      have hf3 : (v + 1) * nB / V ≤ nB := Nat.div_le_of_le_mul (Nat.mul_le_mul_right _ (by omega))
      have HVE : Hid (VT v = toldT root l nB Lf v ++ ofT kt (⟨#[3]⟩ ++ toldT root l nB Lf v) ++ jT (fun i => Bk (v * nB / V + i)) ((v + 1) * nB / V - v * nB / V)) := by
        show VT v = _
        rw [← HVT.out]; rfl
      obtain ⟨td, htd⟩ : ∃ td, toldT root l nB Lf v = td := ⟨_, rfl⟩
      rw [htd] at q4 HVE ⊢
      refine (share_any V nB v w2 (by omega) hV (by omega) (by omega)).mono ?_
      rintro e w3 ⟨rfl, q, hq⟩
      obtain ⟨f, hfe⟩ : ∃ f, v * nB / V = f := ⟨_, rfl⟩
      obtain ⟨en, hee⟩ : ∃ en, (v + 1) * nB / V = en := ⟨_, rfl⟩
      rw [hfe] at hf1 hf2 HVE ⊢
      rw [hee] at hf2 hf3 HVE ⊢
      have HR3' : Hid (Rw w3 gv V 9 (part' v (tX VT) (.string ⟨#[]⟩))) := by show Rw _ _ _ _ _; rw [hq]; exact HR2'.out
      have HB3' : Hid (Below gv s3 w3) := by show Below _ _ _; rw [hq]; exact below_drewN HB2'.out q
      clear hq hfe hee HR2' HB2' c3 htd q1 q2 q3 hjs HTD
      have HW3 : Hid (Below w.heap.size w w3) := HSB.out.trans (HB3'.out.mono (by rw [HGV.out]; exact HSB.out.size))
      have q5 : ((⟨#[3]⟩ : ByteArray) ++ td).size ≤ 6000000 := by
        rw [ByteArray.size_append]
        have : (⟨#[3]⟩ : ByteArray).size = 1 := rfl
        omega
      have HDG : Hid (∀ W, Below gv s3 W → Calls Tryz.prog 125 #[.string (⟨#[3]⟩ ++ td)] W fun e w' => e = .returned (.string (ofT kt (⟨#[3]⟩ ++ td))) ∧ Below W.heap.size W w') := fun W hW => by
        have hg1 := HG.out W (HSB.out.trans (hW.mono (by rw [HGV.out]; exact HSB.out.size)))
        exact of_any kt _ W (by omega) hg1.tab hg1.one
      have HJN : Hid (∀ W, gv ≤ W.heap.size → Below gv s3 W → Calls Tryz.prog 184 #[.slice (some ⟨g, f, none⟩) (en - f) (capB - f), .string ⟨#[]⟩] W fun e w' => e = .returned (.string (jT (fun i => Bk (f + i)) (en - f))) ∧ Below W.heap.size W w') := fun W hz hW =>
        sjoin_any (fun i => Bk (f + i)) g f (en - f) (capB - f) 1000 W (Nat.lt_of_lt_of_le hgg hz) (by omega) (by omega) (by omega) (fun i hi => HBK.out _ (by omega)) (fun i hi => HCL.out W (HSB.out.trans (hW.mono (by rw [HGV.out]; exact HSB.out.size))) (f + i) (by omega))
      have hds : (ofT kt (⟨#[3]⟩ ++ td)).size ≤ 32 := Nat.le_of_eq (ofT_size kt _)
      have hjs : (jT (fun i => Bk (f + i)) (en - f)).size ≤ 100000000 := Nat.le_trans (jT_size _ 1000 _ (fun i hi => HBK.out _ (by omega))) (Nat.le_trans (Nat.mul_le_mul_right 1000 (show en - f ≤ 10000 by omega)) (by omega))
      obtain ⟨dg, hdg⟩ : ∃ dg, ofT kt (⟨#[3]⟩ ++ td) = dg := ⟨_, rfl⟩
      obtain ⟨jn', hjn⟩ : ∃ jn', jT (fun i => Bk (f + i)) (en - f) = jn' := ⟨_, rfl⟩
      rw [hdg] at HVE HDG hds
      rw [hjn] at HVE HJN hjs
      have q6 : (td ++ dg).size ≤ 6000000 := by rw [ByteArray.size_append]; omega
      clear hdg hjn
      have hfc : (f : Int) < (capB : Int) := by omega
      have hfe : (f : Int) ≤ (en : Int) := by omega
      have hec : (en : Int) ≤ (capB : Int) := by omega
      have hvV : (v : Int) < (V : Int) := by omega
      have hvl := HR3'.out.lt
      have k1 := HR3'.out.cell v hlt
      have k2 := HR3'.out.free v
      have HS3 : Hid (gv ≤ w3.heap.size) := Nat.le_of_lt HR3'.out.lt
      have t1 : (⟨#[3]⟩ : ByteArray).size = 1 := rfl
      have k3 : ¬ (9223372036854775807 < (⟨#[3]⟩ : ByteArray).size + td.size) := by omega
      have k3' : ¬ (9223372036854775807 < 1 + td.size) := by omega
      have k4 : ¬ (9223372036854775807 < td.size + dg.size) := by omega
      have k5 : ¬ (9223372036854775807 < (td ++ dg).size + jn'.size) := by omega
      have k5' : ¬ (9223372036854775807 < td.size + dg.size + jn'.size) := by omega
      go_wp2
      go_region_held3 (fun w' => w'.frozen? ⟨gv, v, none⟩ = false) (go_keep) (first | (go_at_call 125; refine Calls.mono (HDG.out _ (by first | exact HB3'.out | exact HB3'.out.drew)) ?_; rintro e r1 ⟨rfl, hbd⟩; have hB1 : Below w3.heap.size w3 r1 := (by first | exact hbd | exact ((Below.refl _ _).drew).trans hbd); have HRa : Hid (Rw r1 gv V 9 (part' v (tX VT) (.string ⟨#[]⟩))) := HR3'.out.below hB1 hvl; have HBa : Hid (Below gv s3 r1) := HB3'.out.trans (hB1.mono HS3.out); have m1 := HRa.out.cell v hlt; have m2 := HRa.out.free v) | (go_at_call 184; refine Calls.mono (HJN.out r1 (Nat.le_of_lt HRa.out.lt) HBa.out) ?_; rintro e r2 ⟨rfl, hbj⟩; have HRb : Hid (Rw r2 gv V 9 (part' v (tX VT) (.string ⟨#[]⟩))) := HRa.out.below hbj HRa.out.lt; have HBb : Hid (Below gv s3 r2) := HBa.out.trans (hbj.mono (Nat.le_of_lt HRa.out.lt)); have n1 := HRb.out.cell v hlt; have n2 := HRb.out.free v))
      clear n1 n2 m1 m2 k1 k2
      go_wp2
      go_roundw
      case rel => exact ⟨v + 1, by omega, by go_num, (HRb.out.put v _).to (fun j _ => by rw [← HVE.out, ← part_step]; rfl), HBb.out.setCell (Nat.le_refl _) _⟩
      case measure => simp [intOf]; omega
    · have e : v = V := by omega
      subst e
      go_wp2
      go_ret2
      exact ⟨gv, rfl, by rw [HGV.out]; exact HSB.out.size, HRR.out.to (fun j hj => by simp [part', hj]), HWR.out⟩
end Go.Proofs.YtadinjaocnlglaaGreatDoor
namespace Go.Proofs.YtadinjaocnlglaaGreatDoor
open Go.RowKit
set_option maxRecDepth 100000
set_option maxHeartbeats 2000000
theorem volumes_nil (kt : Nat → Int) (K M C V nE capE : Nat) (aE : Option Addr) (Nm : Nat → ByteArray) (Ln : Nat → Nat) (Bk : Nat → ByteArray) (w : World) (hK : K ≤ 100000) (hM : M ≤ 100000) (hC : C ≤ 100000) (hV1 : 1 ≤ V) (hV : V ≤ 1000) (hnE : nE ≤ 1000)
    (hN : ∀ j, (Nm j).size ≤ 1000) (hLn : ∀ j, Ln j ≤ 100000) (hE : ∀ j, j < nE → ∃ b, aE = some ⟨b, 0, none⟩ ∧ b < w.heap.size ∧ w.cell? ⟨b, j * 2, none⟩ = some (.string (Nm j)) ∧ w.cell? ⟨b, j * 2 + 1, none⟩ = some (.int .i64 (Ln j)))
    (hG : Gd kt w) :
    Calls Tryz.prog 124 #[.agg #[.int .i64 K, .int .i64 M, .int .i64 C, .int .i64 V], .slice aE nE capE, .slice none 0 0] w fun e w' => ∃ gv, e = .returned (.tuple #[.slice (some ⟨gv, 0, none⟩) V V, .string (rootT (ofT kt) (lstT K M C V nE Nm Ln) 0 fun i => leafT (ofT kt) (Bk i))]) ∧ w.heap.size ≤ gv ∧ Rw w' gv V 9 (tX (volT (ofT kt) (rootT (ofT kt) (lstT K M C V nE Nm Ln) 0 fun i => leafT (ofT kt) (Bk i)) (lstT K M C V nE Nm Ln) 0 (fun i => leafT (ofT kt) (Bk i)) Bk V)) ∧ Below w.heap.size w w' := by
  have hmk := run_make_row' (P := Tryz.prog) 42 9 (.string ⟨#[]⟩) 16 Tryz.underlying42 info9 rfl .i64 .i64 V (by omega) (by omega)
  have HLS : Hid _ := lstT_size K M C V nE Nm Ln hN hnE
  have HLIST : Hid (∀ W, Below w.heap.size w W → Calls Tryz.prog 180 #[.agg #[.int .i64 K, .int .i64 M, .int .i64 C, .int .i64 V], .slice aE nE capE] W fun e w' => e = .returned (.string (lstT K M C V nE Nm Ln)) ∧ Below W.heap.size W w') := fun W hW =>
    listOf_any K M C V nE capE aE Nm Ln W hK hM hC (by omega) (by omega) hN hLn (fun j hj => by
      obtain ⟨b, h1, h2, h3, h4⟩ := hE j hj
      exact ⟨b, h1, Nat.lt_of_lt_of_le h2 hW.size, (hW.cell (p := ⟨b, j * 2, none⟩) h2).trans h3, (hW.cell (p := ⟨b, j * 2 + 1, none⟩) h2).trans h4⟩)
  have HG : Hid (∀ W, Below w.heap.size w W → Gd kt W) := fun W hW => hG.below hW
  clear hN hLn hE hG
  obtain ⟨l, hl⟩ : ∃ l, lstT K M C V nE Nm Ln = l := ⟨_, rfl⟩
  rw [hl] at HLS HLIST ⊢
  clear hl
  obtain ⟨Lf, hLf⟩ : ∃ Lf : Nat → ByteArray, (fun i => leafT (ofT kt) (Bk i)) = Lf := ⟨_, rfl⟩
  have HLF : Hid (∀ i, (Lf i).size ≤ 32) := fun i => by rw [← hLf]; exact Nat.le_of_eq (ofT_size kt _)
  have HLE : Hid _ := hLf
  rw [hLf]
  clear hLf
  obtain ⟨root, hroot⟩ : ∃ root, rootT (ofT kt) l 0 Lf = root := ⟨_, rfl⟩
  have hrs : root.size = 32 := by rw [← hroot]; exact ofT_size kt _
  have HRE : Hid _ := hroot
  rw [hroot]
  clear hroot
  obtain ⟨VT, hVT⟩ : ∃ VT, volT (ofT kt) root l 0 Lf Bk V = VT := ⟨_, rfl⟩
  have HVT : Hid _ := hVT
  rw [hVT]
  clear hVT
  go_enter Tryz.func124, Tryz.ntmps124
  go_wp2_with fail
  obtain ⟨s0, hs0⟩ : ∃ s0, s0 = w.alloc (Obj.cells #[Value.int IntKind.i64 K, Value.int IntKind.i64 M, Value.int IntKind.i64 C, Value.int IntKind.i64 V] 23) := ⟨_, rfl⟩
  have HX0 : Hid (s0.heap[w.heap.size]? = some (.cells #[.int .i64 K, .int .i64 M, .int .i64 C, .int .i64 V] 23 (0, 0))) := by
    show _ = _
    rw [hs0]; exact heap_alloc_new _ _
  have HB0 : Hid (Below w.heap.size w s0) := by show Below _ _ _; rw [hs0]; exact (Below.refl _ _).alloc (Nat.le_refl _) _
  rw [← hs0]
  clear hs0
  obtain ⟨x, hx⟩ : ∃ x, x = w.heap.size := ⟨_, rfl⟩
  rw [← hx] at HX0 ⊢
  have HX : Hid _ := hx
  clear hx
  have hx0 : x < s0.heap.size := (Array.getElem?_eq_some_iff.1 HX0.out).1
  refine Calls.mono (HLIST.out s0 HB0.out) ?_
  rintro e s1 ⟨rfl, hb1⟩
  have HB1 : Hid (Below s0.heap.size s0 s1) := hb1
  clear hb1 HLIST
  have HW1 : Hid (Below w.heap.size w s1) := HB0.out.trans (HB1.out.mono HB0.out.size)
  go_wp2_with fail
  refine (leavesOf_any kt Bk none 0 0 s1 (by omega) (fun i hi => by omega) (HG.out _ HW1.out) (fun i hi => by omega)).mono ?_
  rintro e s2 ⟨rfl, hR2, hb2⟩
  have HB2 : Hid (Below s0.heap.size s0 s2) := HB1.out.trans (hb2.mono HB1.out.size)
  have HR2 : Hid (Rw s2 s1.heap.size 0 9 (tI Lf)) := by show Rw s2 s1.heap.size 0 9 (tI Lf); rw [← HLE.out]; exact hR2
  have HW2 : Hid (Below w.heap.size w s2) := HB0.out.trans (HB2.out.mono HB0.out.size)
  clear hR2 hb2 HB1 HW1
  have hl2 : s1.heap.size < s2.heap.size := HR2.out.lt
  obtain ⟨gl, hgl⟩ : ∃ gl, gl = s1.heap.size := ⟨_, rfl⟩
  rw [← hgl] at HR2 hl2 ⊢
  have HGL : Hid _ := hgl
  clear hgl
  go_wp2_with fail
  refine (rootOf_any kt l Lf gl 0 0 s2 (by have := HLS.out; omega) (by omega) (fun i _ => HLF.out i) (HG.out _ HW2.out) hl2 (fun i hi => HR2.out.cell i hi)).mono ?_
  rintro e s3 ⟨rfl, hb3⟩
  rw [HRE.out]
  have HB3 : Hid (Below s0.heap.size s0 s3) := HB2.out.trans (hb3.mono HB2.out.size)
  have HR3 : Hid (Rw s3 gl 0 9 (tI Lf)) := HR2.out.below hb3 hl2
  have hl3 : gl < s3.heap.size := HR3.out.lt
  clear hb3 HB2 HR2 HW2 hl2
  have c3 : s3.cell? ⟨x, 3, none⟩ = some (.int .i64 V) := cell_of_row _ _ _ _ 23 _ (by rw [HB3.out.block x hx0]; exact HX0.out)
  go_wp2
  obtain ⟨s4, hs4⟩ : ∃ s4, s4 = s3.alloc (Obj.cells (madeCells #[Value.string { data := #[] }] V) 9) := ⟨_, rfl⟩
  have HRV : Hid (Rw s4 s3.heap.size V 9 (fun _ => .string ⟨#[]⟩)) := by show Rw _ _ _ _ _; rw [hs4]; exact Rw.made s3 V 9 _
  have hb34 : Below s3.heap.size s3 s4 := by rw [hs4]; exact (Below.refl _ _).alloc (Nat.le_refl _) _
  rw [← hs4]
  clear hs4 c3
  have HR4 : Hid (Rw s4 gl 0 9 (tI Lf)) := HR3.out.below hb34 hl3
  have HB4 : Hid (Below s3.heap.size s3 s4) := hb34
  clear hb34
  obtain ⟨gv, hgv⟩ : ∃ gv, gv = s3.heap.size := ⟨_, rfl⟩
  rw [← hgv] at HRV hl3 ⊢
  have HGV : Hid _ := hgv
  have hxv : x < gv := by rw [hgv]; exact Nat.lt_of_lt_of_le hx0 HB3.out.size
  clear hgv
  have HSB : Hid (Below w.heap.size w s3) := HB0.out.trans (HB3.out.mono HB0.out.size)
  go_loopw [27] (fun iv wr => ∃ v : Nat, v ≤ V ∧ iv = .int .i64 v ∧ Rw wr gv V 9 (part' v (tX VT) (.string ⟨#[]⟩)) ∧ Below gv s3 wr) (fun iv _ => V - (intOf iv).toNat)
  case atStart => exact ⟨0, by omega, rfl, HRV.out.to (fun j _ => (part_0 _ _ j).symm), by rw [HGV.out]; exact HB4.out⟩
  case round =>
    obtain ⟨v, hv, rfl, hRr, hbr⟩ := hrel
    have HRR : Hid (Rw wr gv V 9 (part' v (tX VT) (.string ⟨#[]⟩))) := hRr
    have HBR : Hid (Below gv s3 wr) := hbr
    clear hRr hbr
    have HWR : Hid (Below w.heap.size w wr) := HSB.out.trans (HBR.out.mono (by rw [HGV.out]; exact HSB.out.size))
    by_cases hlt : v < V
    · have hls := HLS.out
      have q1 : ((⟨#[86, 79, 76, 49]⟩ : ByteArray) ++ root).size ≤ 100 := by
        rw [ByteArray.size_append, hrs]
        have : (⟨#[86, 79, 76, 49]⟩ : ByteArray).size = 4 := rfl
        omega
      have q2 : ((⟨#[86, 79, 76, 49]⟩ : ByteArray) ++ root ++ l).size ≤ 3000000 := by rw [ByteArray.size_append]; omega
      have hvm : ((v : Nat) : Int) % 4294967296 = ((v : Nat) : Int) := by omega
      have hvs := vint_size v
      have q3 : ((⟨#[86, 79, 76, 49]⟩ : ByteArray) ++ root ++ l ++ vint v).size ≤ 3000100 := by rw [ByteArray.size_append]; omega
      have hjs : (jT Lf 0).size ≤ 1000000 := Nat.le_trans (jT_size Lf 32 0 (fun i _ => HLF.out i)) (by omega)
      have HTD : Hid (toldT root l 0 Lf v = (⟨#[86, 79, 76, 49]⟩ : ByteArray) ++ root ++ l ++ vint v ++ jT Lf 0) := rfl
      have q4 : (toldT root l 0 Lf v).size ≤ 5000000 := by rw [HTD.out, ByteArray.size_append]; omega
      go_wp2_with fail
      refine (varint_any v wr (by omega)).mono ?_
      rintro e w1 ⟨rfl, hb1⟩
      have HR1 : Hid (Rw w1 gv V 9 (part' v (tX VT) (.string ⟨#[]⟩))) := HRR.out.below hb1 HRR.out.lt
      have HB1' : Hid (Below gv s3 w1) := HBR.out.trans (hb1.mono (Nat.le_of_lt HRR.out.lt))
      clear hb1 HRR HBR HWR
      go_wp2_with fail
      refine (sjoin_any Lf gl 0 0 0 32 w1 (Nat.lt_of_lt_of_le hl3 (Nat.le_of_lt HR1.out.lt)) (Nat.le_refl _) (by omega) (by omega) (fun i _ => HLF.out i) (fun i hi => by rw [Nat.zero_add]; exact (HB1'.out.cell (p := ⟨gl, i, none⟩) hl3).trans (HR3.out.cell i hi))).mono ?_
      rintro e w2 ⟨rfl, hb2⟩
      have HR2' : Hid (Rw w2 gv V 9 (part' v (tX VT) (.string ⟨#[]⟩))) := HR1.out.below hb2 HR1.out.lt
      have HB2' : Hid (Below gv s3 w2) := HB1'.out.trans (hb2.mono (Nat.le_of_lt HR1.out.lt))
      clear hb2 HR1 HB1'
      have c3 : w2.cell? ⟨x, 3, none⟩ = some (.int .i64 V) := cell_of_row _ _ _ _ 23 _ (by rw [HB2'.out.block x hxv, HB3.out.block x hx0]; exact HX0.out)
      go_wp2_with fail
      rw [← HTD.out]
      have HVE : Hid (VT v = toldT root l 0 Lf v ++ ofT kt (⟨#[3]⟩ ++ toldT root l 0 Lf v) ++ jT (fun i => Bk (v * 0 / V + i)) ((v + 1) * 0 / V - v * 0 / V)) := by
        show VT v = _
        rw [← HVT.out]; rfl
      obtain ⟨td, htd⟩ : ∃ td, toldT root l 0 Lf v = td := ⟨_, rfl⟩
      rw [htd] at q4 HVE ⊢
      refine (share_any V 0 v w2 (by omega) hV (by omega) (by omega)).mono ?_
      rintro e w3 ⟨rfl, q, hq⟩
      have z1 : v * 0 / V = 0 := by rw [Nat.mul_zero, Nat.zero_div]
      have z2 : (v + 1) * 0 / V = 0 := by rw [Nat.mul_zero, Nat.zero_div]
      rw [z1, z2] at HVE ⊢
      clear z1 z2
      have HR3' : Hid (Rw w3 gv V 9 (part' v (tX VT) (.string ⟨#[]⟩))) := by show Rw _ _ _ _ _; rw [hq]; exact HR2'.out
      have HB3' : Hid (Below gv s3 w3) := by show Below _ _ _; rw [hq]; exact below_drewN HB2'.out q
      clear hq HR2' HB2' c3 htd q1 q2 q3 hjs HTD
      have HW3 : Hid (Below w.heap.size w w3) := HSB.out.trans (HB3'.out.mono (by rw [HGV.out]; exact HSB.out.size))
      have q5 : ((⟨#[3]⟩ : ByteArray) ++ td).size ≤ 6000000 := by
        rw [ByteArray.size_append]
        have : (⟨#[3]⟩ : ByteArray).size = 1 := rfl
        omega
      have HDG : Hid (∀ W, Below gv s3 W → Calls Tryz.prog 125 #[.string (⟨#[3]⟩ ++ td)] W fun e w' => e = .returned (.string (ofT kt (⟨#[3]⟩ ++ td))) ∧ Below W.heap.size W w') := fun W hW => by
        have hg1 := HG.out W (HSB.out.trans (hW.mono (by rw [HGV.out]; exact HSB.out.size)))
        exact of_any kt _ W (by omega) hg1.tab hg1.one
      have HJN : Hid (∀ W, Calls Tryz.prog 184 #[.slice none 0 0, .string ⟨#[]⟩] W fun e w' => e = .returned (.string (jT (fun i => Bk (0 + i)) (0 - 0))) ∧ Below W.heap.size W w') := fun W =>
        (join_none _ 0 ⟨#[]⟩ W).mono fun e w' ⟨h1, h2⟩ => ⟨h1, by rw [h2]; exact Below.refl _ _⟩
      have hds : (ofT kt (⟨#[3]⟩ ++ td)).size ≤ 32 := Nat.le_of_eq (ofT_size kt _)
      have hjs : (jT (fun i => Bk (0 + i)) (0 - 0)).size ≤ 100000000 := by show 0 ≤ _; omega
      obtain ⟨dg, hdg⟩ : ∃ dg, ofT kt (⟨#[3]⟩ ++ td) = dg := ⟨_, rfl⟩
      obtain ⟨jn', hjn⟩ : ∃ jn', jT (fun i => Bk (0 + i)) (0 - 0) = jn' := ⟨_, rfl⟩
      rw [hdg] at HVE HDG hds
      rw [hjn] at HVE HJN hjs
      have q6 : (td ++ dg).size ≤ 6000000 := by rw [ByteArray.size_append]; omega
      clear hdg hjn
      have hvV : (v : Int) < (V : Int) := by omega
      have hvl := HR3'.out.lt
      have k1 := HR3'.out.cell v hlt
      have k2 := HR3'.out.free v
      have HS3 : Hid (gv ≤ w3.heap.size) := Nat.le_of_lt HR3'.out.lt
      have t1 : (⟨#[3]⟩ : ByteArray).size = 1 := rfl
      have k3 : ¬ (9223372036854775807 < (⟨#[3]⟩ : ByteArray).size + td.size) := by omega
      have k3' : ¬ (9223372036854775807 < 1 + td.size) := by omega
      have k4 : ¬ (9223372036854775807 < td.size + dg.size) := by omega
      have k5 : ¬ (9223372036854775807 < (td ++ dg).size + jn'.size) := by omega
      have k5' : ¬ (9223372036854775807 < td.size + dg.size + jn'.size) := by omega
      go_wp2
      go_region_held3 (fun w' => w'.frozen? ⟨gv, v, none⟩ = false) (go_keep) (first | (go_at_call 125; refine Calls.mono (HDG.out _ (by first | exact HB3'.out | exact HB3'.out.drew)) ?_; rintro e r1 ⟨rfl, hbd⟩; have hB1 : Below w3.heap.size w3 r1 := (by first | exact hbd | exact ((Below.refl _ _).drew).trans hbd); have HRa : Hid (Rw r1 gv V 9 (part' v (tX VT) (.string ⟨#[]⟩))) := HR3'.out.below hB1 hvl; have HBa : Hid (Below gv s3 r1) := HB3'.out.trans (hB1.mono HS3.out); have m1 := HRa.out.cell v hlt; have m2 := HRa.out.free v) | (go_at_call 184; refine Calls.mono (HJN.out r1) ?_; rintro e r2 ⟨rfl, hbj⟩; have HRb : Hid (Rw r2 gv V 9 (part' v (tX VT) (.string ⟨#[]⟩))) := HRa.out.below hbj HRa.out.lt; have HBb : Hid (Below gv s3 r2) := HBa.out.trans (hbj.mono (Nat.le_of_lt HRa.out.lt)); have n1 := HRb.out.cell v hlt; have n2 := HRb.out.free v))
      clear n1 n2 m1 m2 k1 k2
      go_wp2
      go_roundw
      case rel => exact ⟨v + 1, by omega, by go_num, (HRb.out.put v _).to (fun j _ => by rw [← HVE.out, ← part_step]; rfl), HBb.out.setCell (Nat.le_refl _) _⟩
      case measure => simp [intOf]; omega
    · have e : v = V := by omega
      subst e
      go_wp2
      go_ret2
      exact ⟨gv, rfl, by rw [HGV.out]; exact HSB.out.size, HRR.out.to (fun j hj => by simp [part', hj]), HWR.out⟩
end Go.Proofs.YtadinjaocnlglaaGreatDoor
