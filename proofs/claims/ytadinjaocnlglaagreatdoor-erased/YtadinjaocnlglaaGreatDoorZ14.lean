/-
  The walk of layout.Blocks.
  The walks of strings.Join without a separator, and of layout.Volumes.
-/
import Derived.Test.YtadinjaocnlglaaGreatDoorZ13
import Derived.Deep.RegionLaw
namespace Go.Proofs.YtadinjaocnlglaaGreatDoor
open Go.RowKit
set_option maxRecDepth 100000
set_option maxHeartbeats 2000000
/-- zeros -/
def zerT (c : Nat) : ByteArray := ⟨(Lib.repeatL [0] c).toArray⟩
theorem zerT_size (c : Nat) : (zerT c).size = c := by
  show (Lib.repeatL [0] c).toArray.size = c
  simp [Lib.repeatL_length]
/-- the stream that begins with this data -/
def strm (z : Nat) (s : ByteArray) : ByteArray := s ++ zerT (nst z s.size * z - s.size)
theorem nst_le (z len : Nat) (hz : 0 < z) : len ≤ nst z len * z := by
  unfold nst
  have h1 := Nat.div_add_mod (len + z - 1) z
  have h2 := Nat.mod_lt (len + z - 1) hz
  rw [Nat.mul_comm] at h1
  omega
theorem nst_len (z len : Nat) (hz : 0 < z) : nst z len ≤ len := by
  unfold nst
  rcases Nat.eq_zero_or_pos len with h | h
  · subst h; rw [Nat.div_eq_of_lt (by omega)]; omega
  · apply Nat.div_le_of_le_mul
    obtain ⟨z', rfl⟩ : ∃ z', z = z' + 1 := ⟨z - 1, by omega⟩
    obtain ⟨l', rfl⟩ : ∃ l', len = l' + 1 := ⟨len - 1, by omega⟩
    rw [Nat.succ_mul, Nat.mul_succ]
    omega
theorem strm_size (z : Nat) (s : ByteArray) (hz : 0 < z) : (strm z s).size = nst z s.size * z := by
  unfold strm
  rw [ByteArray.size_append, zerT_size]
  have := nst_le z s.size hz
  omega
/-- the blocks of data of the i-th stripe -/
def dat (t : ByteArray) (z C i : Nat) : Nat → ByteArray := fun j => pc (pc t z i) C j
/-- the blocks of so many stripes -/
def blkV (t : ByteArray) (z K M C : Nat) : Nat → List Value
  | 0 => []
  | i + 1 => blkV t z K M C i ++ whl (dat t z C i) K M C
theorem whl_len (S : Nat → ByteArray) (k m c : Nat) : (whl S k m c).length = k + m := by simp [whl, tV]
theorem whl_one (S : Nat → ByteArray) (k m c : Nat) : ∀ u ∈ whl S k m c, u.oneCell' = true := by
  intro u hu
  rcases List.mem_append.1 hu with h | h
  · exact tV_one _ _ u h
  · exact tV_one _ _ u h
theorem own_cellsAdd {w : World} {B : Nat} {v : Value} {n : Nat} {xs : List Value} (h : w.ownsRow B 9 1 v n xs) (h0 : 0 < n) : ∃ g cap, v = .slice (some ⟨g, 0, none⟩) n cap ∧ B ≤ g ∧ ∀ j u, xs[j]? = some u → w.cell? ((⟨g, 0, none⟩ : Addr).add j) = some u := by
  have hl := h.1
  rcases h.2 with ⟨_, h1⟩ | ⟨g, cap, cur, hv, hg, rest⟩
  · omega
  · refine ⟨g, cap, hv, hg, fun j u hu => ?_⟩
    subst hv
    have hj : j < n := by have := (List.getElem?_eq_some_iff.1 hu).1; omega
    have e : (⟨g, 0, none⟩ : Addr).add j = ⟨g, j, none⟩ := by cases j with
      | zero => rfl
      | succ j => simp [Addr.add]
    rw [e, h.cellAt j (by omega), hu]
theorem blocks_any (K M C V z : Nat) (s : ByteArray) (w : World) (hz : K * C = z) (hK1 : 1 ≤ K) (hC1 : 1 ≤ C) (hKM : K + M ≤ 255) (hC : C ≤ 1000) (hz1 : z ≤ 100000) (hs : s.size ≤ 100000) :
    Calls Tryz.prog 156 #[.agg #[.int .i64 K, .int .i64 M, .int .i64 C, .int .i64 V], .string s] w fun e w' => ∃ v, e = .returned v ∧ w'.ownsRow w.heap.size 9 1 v (nst z s.size * (K + M)) (blkV (strm z s) z K M C (nst z s.size)) ∧ Below w.heap.size w w' ∧ (nst z s.size = 0 → v = .slice none 0 0) := by
  have hz0 : 0 < z := by rw [← hz]; exact Nat.mul_pos hK1 hC1
  have H44 : Hid (∀ W, _) := fun W => countStripes_any K M C V s.size z W hz hz0 hz1 hs
  have hns : nst z s.size ≤ 100000 := Nat.le_trans (nst_len z s.size hz0) hs
  have hle := nst_le z s.size hz0
  have HSZ : Hid _ := strm_size z s hz0
  have HTE : Hid (strm z s = s ++ zerT (nst z s.size * z - s.size)) := rfl
  obtain ⟨n, hn⟩ : ∃ n, nst z s.size = n := ⟨_, rfl⟩
  rw [hn] at H44 hns hle HSZ HTE ⊢
  clear hn
  have hnz : n * z ≤ 20000000000 := Nat.le_trans (Nat.mul_le_mul hns hz1) (by omega)
  obtain ⟨r, hr⟩ : ∃ r, n * z = r := ⟨_, rfl⟩
  have e1 : (n : Int) * (z : Int) = (r : Int) := by rw [← hr]; simp
  rw [hr] at hnz hle HSZ HTE
  have HNR : Hid (n * z = r) := hr
  have e2 : (r : Int) - (s.size : Int) = ((r - s.size : Nat) : Int) := by omega
  have HE2 : Hid _ := e2
  have ez : (K : Int) * (C : Int) = (z : Int) := by rw [← hz]; simp
  have HZ : Hid _ := hz
  clear hz hr e2
  obtain ⟨i0, hi9, hy0, hy1, hy2⟩ := info_parts info9
  go_enter Tryz.func156, Tryz.ntmps156
  go_wp2_with fail
  obtain ⟨s0, hs0⟩ : ∃ s0, s0 = w.alloc (Obj.cells #[Value.int IntKind.i64 K, Value.int IntKind.i64 M, Value.int IntKind.i64 C, Value.int IntKind.i64 V] 23) := ⟨_, rfl⟩
  have HX0 : Hid (s0.heap[w.heap.size]? = some (.cells #[.int .i64 K, .int .i64 M, .int .i64 C, .int .i64 V] 23 (0, 0))) := by
    show _ = _
    rw [hs0]; exact heap_alloc_new _ _
  have HB0 : Hid (Below w.heap.size w s0) := by show Below _ _ _; rw [hs0]; exact (Below.refl _ _).alloc (Nat.le_refl _) _
  rw [← hs0]
  clear hs0
  obtain ⟨x, hx⟩ : ∃ x, x = w.heap.size := ⟨_, rfl⟩
  rw [← hx] at HX0 ⊢
  have HX : Hid _ := hx
  clear hx
  have hx0 : x < s0.heap.size := (Array.getElem?_eq_some_iff.1 HX0.out).1
  refine Calls.mono (H44.out s0) ?_
  rintro e s1 ⟨rfl, hb1⟩
  have HB1 : Hid (Below s0.heap.size s0 s1) := hb1
  clear hb1 H44
  go_wp2_with fail
  rw [HE2.out]
  refine (repeat_any ⟨#[0]⟩ (r - s.size) s1 (by omega) (by show 1 * _ ≤ _; omega)).mono ?_
  rintro e s2 ⟨rfl, hb2⟩
  have HB2 : Hid (Below s0.heap.size s0 s2) := HB1.out.trans (hb2.mono HB1.out.size)
  clear hb2 HB1
  have hzt : (⟨(Lib.repeatL (⟨#[0]⟩ : ByteArray).data.toList (r - s.size)).toArray⟩ : ByteArray) = zerT (r - s.size) := rfl
  rw [hzt]
  have hzs := zerT_size (r - s.size)
  obtain ⟨zz, hzz⟩ : ∃ zz, zerT (r - s.size) = zz := ⟨_, rfl⟩
  rw [hzz] at hzs HTE ⊢
  clear hzt hzz
  have hzs2 : zz.size ≤ 20000000000 := by omega
  clear hzs
  go_wp2_with fail
  rw [← HTE.out]
  obtain ⟨t, ht⟩ : ∃ t, strm z s = t := ⟨_, rfl⟩
  have HT : Hid _ := ht
  rw [ht] at HSZ ⊢
  have HTS : Hid (t.size = n * z) := by show t.size = n * z; rw [HSZ.out, HNR.out]
  clear ht HTE
  refine (cut_any t z n s2 hz0 (by omega) (by omega) HTS.out).mono ?_
  rintro e s3 ⟨rfl, hR3, hb3⟩
  have HR3 : Hid (Rw s3 s2.heap.size n 9 (tX (pc t z))) := hR3
  have HB3 : Hid (Below s0.heap.size s0 s3) := HB2.out.trans (hb3.mono HB2.out.size)
  have hl3 : s2.heap.size < s3.heap.size := hR3.lt
  clear hR3 hb3 HB2
  obtain ⟨gp, hgp⟩ : ∃ gp, gp = s2.heap.size := ⟨_, rfl⟩
  rw [← hgp] at HR3 hl3 ⊢
  have HGP : Hid _ := hgp
  clear hgp
  go_wp2
  go_loopw [31, 7] (fun iv v wr => ∃ i L : Nat, i ≤ n ∧ iv = .int .i64 i ∧ L = i * (K + M) ∧ wr.ownsRow s3.heap.size 9 1 v L (blkV t z K M C i) ∧ Below s3.heap.size s3 wr ∧ (i = 0 → v = .slice none 0 0)) (fun iv _ _ => n - (intOf iv).toNat)
  case atStart => exact ⟨0, 0, by omega, rfl, by omega, World.ownsRow_nil _ _ _ _, Below.refl _ _, fun _ => rfl⟩
  case round =>
    obtain ⟨i, L, hi, rfl, hLe, hown, hbl, hnil⟩ := hrel
    obtain ⟨va, vc, hv⟩ := own_shape hown
    subst hv
    have HNIL : Hid _ := hnil
    clear hnil
    have hL1 : L ≤ 51000000 := by rw [hLe]; exact Nat.le_trans (Nat.mul_le_mul (Nat.le_trans hi hns) hKM) (by omega)
    have HLE : Hid _ := hLe
    have HOW : Hid (wr.ownsRow s3.heap.size 9 1 (.slice va L vc) L (blkV t z K M C i)) := hown
    have HBL : Hid (Below s3.heap.size s3 wr) := hbl
    clear hLe hown hbl
    by_cases hlt : i < n
    · have c1 : wr.cell? ⟨gp, i, none⟩ = some (.string (pc t z i)) := (HBL.out.cell (p := ⟨gp, i, none⟩) hl3).trans (HR3.out.cell i hlt)
      have HXr : Hid (wr.heap[x]? = some (.cells #[.int .i64 K, .int .i64 M, .int .i64 C, .int .i64 V] 23 (0, 0))) := by
        show _ = _
        rw [HBL.out.block x (Nat.lt_of_lt_of_le hx0 HB3.out.size), HB3.out.block x hx0]; exact HX0.out
      have p0 : wr.cell? ⟨x, 0, none⟩ = some (.int .i64 K) := cell_of_row _ _ _ _ 23 _ HXr.out
      have p1 : wr.cell? ⟨x, 1, none⟩ = some (.int .i64 M) := cell_of_row _ _ _ _ 23 _ HXr.out
      have p2 : wr.cell? ⟨x, 2, none⟩ = some (.int .i64 C) := cell_of_row _ _ _ _ 23 _ HXr.out
      have hps : (pc t z i).size = K * C := by rw [HZ.out]; exact pc_size t z n i HTS.out hlt
      have HCUT : Hid (∀ W, Calls Tryz.prog 203 #[.string (pc t z i), .int .i64 C] W fun e w' => e = .returned (.slice (some ⟨W.heap.size, 0, none⟩) K K) ∧ Rw w' W.heap.size K 9 (tX (pc (pc t z i) C)) ∧ Below W.heap.size W w') := fun W => cut_any (pc t z i) C K W hC1 (by omega) (by omega) hps
      have HWHL : Hid (∀ (W : World) (b : Nat), b < W.heap.size → Cl W b K (tI (dat t z C i)) → Calls Tryz.prog 204 #[.int .i64 K, .int .i64 M, .slice (some ⟨b, 0, none⟩) K K] W fun e w' => ∃ v, e = .returned v ∧ w'.ownsRow W.heap.size 9 1 v (K + M) (whl (dat t z C i) K M C) ∧ Below W.heap.size W w') := fun W b hb hCl => whole_any (dat t z C i) K M C b K W hK1 hKM (by omega) (fun j hj => pc_size (pc t z i) C K j hps hj) hb hCl
      have hm1 : L + (K + M) ≤ maxLen := by unfold maxLen; omega
      have hm2 : (L + (K + M)) * 16 ≤ 140737488355328 := by omega
      have hm3 : (whl (dat t z C i) K M C).length = (K + M) * 1 := by rw [whl_len]; omega
      have hm4 : 0 < K + M := by omega
      clear hps
      go_wp2
      go_region_held3 (fun w' => w'.cell? ⟨x, 0, none⟩ = some (.int .i64 K) ∧ w'.cell? ⟨x, 1, none⟩ = some (.int .i64 M) ∧ w'.cell? ⟨x, 2, none⟩ = some (.int .i64 C)) (go_keep) (first | (go_at_call 203; refine Calls.mono (HCUT.out _) ?_; rintro e r1 ⟨rfl, hRc, hbc⟩; have hB1 : Below wr.heap.size wr r1 := (by first | exact hbc | exact ((Below.refl _ _).drew).trans hbc); have hxl := block_lt_of_cell p0; have q0 : r1.cell? ⟨x, 0, none⟩ = some (.int .i64 K) := (hB1.cell (p := ⟨x, 0, none⟩) hxl).trans p0; have q1 : r1.cell? ⟨x, 1, none⟩ = some (.int .i64 M) := (hB1.cell (p := ⟨x, 1, none⟩) hxl).trans p1; have q2 : r1.cell? ⟨x, 2, none⟩ = some (.int .i64 C) := (hB1.cell (p := ⟨x, 2, none⟩) hxl).trans p2) | (go_at_call 204; refine Calls.mono (HWHL.out r1 _ hRc.lt (fun j hj => hRc.cell j hj)) ?_; rintro e r2 ⟨v2, rfl, ho2, hb2⟩; obtain ⟨g2, cap2, hv2, hg2, hc2⟩ := own_cellsAdd ho2 hm4; subst hv2; have hxl2 : x < r1.heap.size := block_lt_of_cell q0; have hB2 : Below wr.heap.size wr r2 := hB1.trans (hb2.mono hB1.size); have t0 : r2.cell? ⟨x, 0, none⟩ = some (.int .i64 K) := (hb2.cell (p := ⟨x, 0, none⟩) hxl2).trans q0; have t1 : r2.cell? ⟨x, 1, none⟩ = some (.int .i64 M) := (hb2.cell (p := ⟨x, 1, none⟩) hxl2).trans q1; have t2 : r2.cell? ⟨x, 2, none⟩ = some (.int .i64 C) := (hb2.cell (p := ⟨x, 2, none⟩) hxl2).trans q2) | (refine step_append_own rfl (.tmp 35) (.tmp 44) 42 rfl 9 i0 (.string ⟨#[]⟩) 1 16 Tryz.underlying42 hi9 hy0 hy1 hy2 rfl (by decide) s3.heap.size (.slice va L vc) L (blkV t z K M C i) (by simp [Act.eval]) (own_below HOW.out hB2) ⟨g2, 0, none⟩ (K + M) cap2 (whl (dat t z C i) K M C) (by simp [Act.eval]) hm3 hc2 (whl_one _ _ _ _) hm1 hm2 (Nat.le_trans HBL.out.size hB2.size) ?_; intro v' w' hown' hgrow; have hB3' : Below s3.heap.size s3 w' := (HBL.out.trans (hB2.mono HBL.out.size)).grown hgrow (Nat.le_trans HBL.out.size hB2.size) (fun g hg => own_ge (own_below HOW.out hB2) g hg); have hx3 : x < s3.heap.size := Nat.lt_of_lt_of_le hx0 HB3.out.size; have hXw : w'.heap[x]? = some (.cells #[.int .i64 K, .int .i64 M, .int .i64 C, .int .i64 V] 23 (0, 0)) := (by rw [hB3'.block x hx3, HB3.out.block x hx0]; exact HX0.out); have z0 : w'.cell? ⟨x, 0, none⟩ = some (.int .i64 K) := cell_of_row _ _ _ _ 23 _ hXw; have z1 : w'.cell? ⟨x, 1, none⟩ = some (.int .i64 M) := cell_of_row _ _ _ _ 23 _ hXw; have z2 : w'.cell? ⟨x, 2, none⟩ = some (.int .i64 C) := cell_of_row _ _ _ _ 23 _ hXw))
      have ho' : w'.ownsRow s3.heap.size 9 1 v' (L + (K + M)) (blkV t z K M C (i + 1)) := hown'
      clear hown' hgrow ho2 hc2 hRc
      have hnx : L + (K + M) = (i + 1) * (K + M) := by rw [Nat.succ_mul, ← HLE.out]
      have HNX : Hid _ := hnx
      clear hnx
      go_wp2
      go_roundw
      case rel => exact ⟨i + 1, L + (K + M), by omega, by go_num, HNX.out, ho', hB3', fun h => by omega⟩
      case measure => simp [intOf]; omega
    · have e : i = n := by omega
      subst e
      go_wp2
      go_ret
      have hw3 : w.heap.size ≤ s3.heap.size := Nat.le_trans HB0.out.size HB3.out.size
      refine ⟨_, rfl, ?_, ?_, HNIL.out⟩
      · have h := HOW.out
        rw [HLE.out, ← HT.out] at h
        refine ⟨h.1, ?_⟩
        rcases h.2 with h2 | ⟨g', cap', cur, hv, hg', rest⟩
        · rw [HLE.out]; exact .inl h2
        · rw [HLE.out]; exact .inr ⟨g', cap', cur, hv, Nat.le_trans hw3 hg', rest⟩
      · exact (HB0.out.trans (HB3.out.mono HB0.out.size)).trans (HBL.out.mono hw3)
end Go.Proofs.YtadinjaocnlglaaGreatDoor
namespace Go.Proofs.YtadinjaocnlglaaGreatDoor
open Go.RowKit
set_option maxRecDepth 100000
set_option maxHeartbeats 2000000
/-- texts, one behind the other -/
def jL (F : Nat → ByteArray) (n : Nat) : List UInt8 := ((List.range n).map fun i => (F i).data.toList).flatten
def jT (F : Nat → ByteArray) (n : Nat) : ByteArray := ⟨(jL F n).toArray⟩
theorem jL_len (F : Nat → ByteArray) (c : Nat) : ∀ n, (∀ i, i < n → (F i).size ≤ c) → (jL F n).length ≤ n * c
  | 0, _ => by simp [jL]
  | n + 1, h => by
    have ih := jL_len F c n (fun i hi => h i (by omega))
    have h1 := h n (by omega)
    have e : jL F (n + 1) = jL F n ++ (F n).data.toList := by simp [jL, List.range_succ]
    rw [e, List.length_append, dl, Nat.succ_mul]
    omega
theorem jT_size (F : Nat → ByteArray) (c n : Nat) (h : ∀ i, i < n → (F i).size ≤ c) : (jT F n).size ≤ n * c := by
  have := jL_len F c n h
  show (jL F n).toArray.size ≤ n * c
  simpa using this
theorem join_flat : ∀ xs : List (List UInt8), Lib.join xs [] = xs.flatten
  | [] => rfl
  | x :: r => by rw [Lib.join_cons]; simp [Lib.joinTail]
theorem sjoin_any (F : Nat → ByteArray) (b o n cap c : Nat) (w : World) (hb : b < w.heap.size) (hcap : n ≤ cap) (hn : n ≤ 1000000) (hc : c ≤ 1000000) (hF : ∀ i, i < n → (F i).size ≤ c) (hC : ∀ i, i < n → w.cell? ⟨b, o + i, none⟩ = some (.string (F i))) :
    Calls Tryz.prog 184 #[.slice (some ⟨b, o, none⟩) n cap, .string ⟨#[]⟩] w fun e w' => e = .returned (.string (jT F n)) ∧ Below w.heap.size w w' := by
  rcases Nat.eq_zero_or_pos n with h0 | h0
  · subst h0
    exact (join_none _ cap ⟨#[]⟩ w).mono fun e w' ⟨h1, h2⟩ => ⟨h1, by rw [h2]; exact Below.refl _ _⟩
  · have hl : ((List.range n).map F).length = n := by simp
    have hj : Lib.join (((List.range n).map F).map (·.data.toList)) (⟨#[]⟩ : ByteArray).data.toList = jL F n := by
      show Lib.join _ [] = _
      rw [join_flat, List.map_map]
      rfl
    have h := join_some b o cap ((List.range n).map F) ⟨#[]⟩ w (fun j x hx => by
      have hjn : j < n := by have := (List.getElem?_eq_some_iff.1 hx).1; rwa [hl] at this
      simp [hjn] at hx
      rw [← hx]; exact hC j hjn) hb (by rw [hl]; omega) (by rw [hl]; exact hcap) (by
      rw [hj]
      have h1 := jL_len F c n hF
      have h2 : n * c ≤ 1000000 * 1000000 := Nat.mul_le_mul hn hc
      omega)
    rw [hl, hj] at h
    exact h
def volM : ByteArray := ⟨#[86, 79, 76, 49]⟩
/-- what a volume tells ahead of its check -/
def toldT (root l : ByteArray) (n : Nat) (L : Nat → ByteArray) (v : Nat) : ByteArray := volM ++ root ++ l ++ vint v ++ jT L n
/-- a volume -/
def volT (D : ByteArray → ByteArray) (root l : ByteArray) (n : Nat) (L B : Nat → ByteArray) (V v : Nat) : ByteArray :=
  toldT root l n L v ++ D (⟨#[3]⟩ ++ toldT root l n L v) ++ jT (fun i => B (v * n / V + i)) ((v + 1) * n / V - v * n / V)
end Go.Proofs.YtadinjaocnlglaaGreatDoor
