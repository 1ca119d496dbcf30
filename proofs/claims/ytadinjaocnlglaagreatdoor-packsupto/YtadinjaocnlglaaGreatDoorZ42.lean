/-
  The document's laid.
-/
import Derived.Test.YtadinjaocnlglaaGreatDoorZ40
import Derived.Test.YtadinjaocnlglaaGreatDoorZ41
import Derived.Test.YtadinjaocnlglaaGreatDoorZ24
import Derived.Deep.CutRange
import Derived.Laws.OwnMore
namespace Go.Proofs.YtadinjaocnlglaaGreatDoor
open Go.RowKit
set_option maxRecDepth 100000
set_option maxHeartbeats 4000000
theorem ext_ext (t : ByteArray) (a b c d : Nat) (h : a + d ≤ b) : (t.extract a b).extract c d = t.extract (a + c) (a + d) := by
  apply by_inj
  simp only [ByteArray.data_extract, Array.toList_extract, List.extract_eq_take_drop]
  rw [List.drop_take, List.take_take, List.drop_drop, Nat.min_eq_left (by omega)]
  congr 1
  omega
theorem pc_pc (t : ByteArray) (z C j i : Nat) (h : (i + 1) * C ≤ z) : pc (pc t z j) C i = t.extract (j * z + i * C) (j * z + (i + 1) * C) := by
  unfold pc
  have h1 : (j + 1) * z = j * z + z := Nat.succ_mul j z
  rw [ext_ext _ _ _ _ _ (by omega)]
theorem ext_tail (t : ByteArray) (a c : Nat) (h : a + c ≤ t.size) : (t.extract a t.size).extract c (t.extract a t.size).size = t.extract (a + c) t.size := by
  rw [ByteArray.size_extract, ext_ext _ _ _ _ _ (by omega)]
  congr 1
  omega
theorem rep_snoc : ∀ k, Lib.repeatL [(0 : UInt8)] k ++ [0] = Lib.repeatL [0] (k + 1)
  | 0 => by simp [Lib.repeatL]
  | k + 1 => by
    have := rep_snoc k
    rw [Lib.repeatL, List.append_assoc, this]
    conv => rhs; rw [Lib.repeatL]
theorem zer_snoc (s : ByteArray) (k : Nat) : s ++ zerT k ++ (⟨#[0]⟩ : ByteArray) = s ++ zerT (k + 1) := by
  apply by_inj
  simp [zerT, rep_snoc]
/-- between two multiples there is none -/
theorem no_mult (z len m : Nat) (hz : 0 < z) (h1 : len ≤ m) (h2 : m < nst z len * z) : m % z ≠ 0 := by
  intro e
  have h3 := Nat.div_add_mod m z
  rw [e, Nat.add_zero] at h3
  have h5 := Nat.div_add_mod (len + z - 1) z
  have h6 := Nat.mod_lt (len + z - 1) hz
  unfold nst at h2
  have h4 : m / z < (len + z - 1) / z := by
    rw [← h3, Nat.mul_comm z] at h2
    exact Nat.lt_of_mul_lt_mul_right h2
  have h7 : z * (m / z) + z ≤ z * ((len + z - 1) / z) := by
    rw [← Nat.mul_succ]; exact Nat.mul_le_mul_left z h4
  omega
theorem wpList_append_nil {P : Program} {ops : Array Oper} {rest : List Oper} {o : Oper} {a : Act} {w : World} {Q : Exit → Act → World → Prop} (hgd : o.guard = none) (s x : Operand) (t : TypeId)
    (ho : o.op = .call { callee := .builtin .append, args := #[s, x], argTypes := #[t, t] }) (base : Nat) (e : TypeId) (i : TypeInfo) (size : Nat) (ht : P.underlying t = some (.slice e)) (hi : P.info? e = some i)
    (v : Value) (n : Nat) (xs : List Value) (hs : a.eval s = v) (hown : w.ownsRow base e size v n xs) (m c : Nat) (hm : m = 0) (hc : c = 0) (hx : a.eval x = .slice none m c) (h : wpList P ops Q rest (a.put o.dst v) w) :
   
    wpList P ops Q (o :: rest) a w := by
  subst hm hc
  refine wpList_plain hgd fun K hK => ?_
  have hr := run_append_owned_none (P := P) (w := w) base t o.type e i size ht hi v n xs hown
  unfold Oper.wp execOp
  simp only [ho, resolve, invoke, builtin, Sem.run_bind, Sem.run_pure, Result.andThen_ok, List.map_toArray, List.map_cons, List.map_nil, hs, hx, hr]
  exact hK _ _ h
theorem tV_row8 {w : World} {B n c : Nat} {a : Option Addr} {L : Nat → ByteArray} (h : w.ownsRow B 9 1 (.slice a n c) n (tV L n)) (hn : 0 < n) : ∃ g, a = some ⟨g, 0, none⟩ ∧ g < w.heap.size ∧ ∀ i, i < n → w.cell? ⟨g, i, none⟩ = some (.string (L i)) := by
  rcases h.2 with ⟨_, h'⟩ | ⟨g, cap, cur, hv, hb, hh, _⟩
  · omega
  · obtain rfl : a = some ⟨g, 0, none⟩ := by simp at hv; exact hv.1
    refine ⟨g, rfl, (Array.getElem?_eq_some_iff.1 hh).1, fun i hi => ?_⟩
    have h1 := h.cellAt i (by omega)
    refine h1.trans ?_
    simp [tV, hi]
theorem tV_news {w : World} {g n : Nat} {L : Nat → ByteArray} (h : ∀ i, i < n → w.cell? ⟨g, i, none⟩ = some (.string (L i))) : ∀ j u, (tV L n)[j]? = some u → w.cell? ((⟨g, 0, none⟩ : Addr).add j) = some u := by
  intro j u hj
  have hjn : j < n := by have := (List.getElem?_eq_some_iff.1 hj).1; rwa [tV_len] at this
  rw [Addr.add_lit, Nat.zero_add, h j hjn]
  simpa [tV, hjn] using hj
theorem tV_news8 {w : World} {B n c : Nat} {ad : Addr} {L : Nat → ByteArray} (h : w.ownsRow B 9 1 (.slice (some ad) n c) n (tV L n)) : ∀ j u, (tV L n)[j]? = some u → w.cell? (ad.add j) = some u := by
  intro j u hj
  have hjn : j < n := by have := (List.getElem?_eq_some_iff.1 hj).1; rwa [tV_len] at this
  obtain ⟨g, ha, _, hcs⟩ := tV_row8 h (by omega)
  cases ha
  exact tV_news hcs j u hj
theorem rlaid_any (K M C V : Nat) (z : Nat) (s : ByteArray) (w : World) (hz : K * C = z) (hK1 : 1 ≤ K) (hC1 : 1 ≤ C) (hKM : K + M ≤ 255) (hC2 : C ≤ 1000) (hs : s.size ≤ 100000) :
    Calls Tryz.prog 146 #[.agg #[.int .i64 K, .int .i64 M, .int .i64 C, .int .i64 V], .string s] w fun e w' => ∃ v, e = .returned v ∧ w'.ownsRow w.heap.size 9 1 v (nst z s.size * (K + M)) (blkV (strm z s) z K M C (nst z s.size)) ∧ Below w.heap.size w w' := by
  have hz0 : 0 < z := by rw [← hz]; exact Nat.mul_pos hK1 hC1
  have hz1 : z ≤ 255000 := by rw [← hz]; exact Nat.le_trans (Nat.mul_le_mul (show K ≤ 255 by omega) hC2) (by omega)
  have e1 : (K : Int) * (C : Int) = (z : Int) := by rw [← hz]; simp
  have hz2 : ((z : Int) == 0) = false := by simp; omega
  have hnl := nst_le z s.size hz0
  have hn1 : nst z s.size * z ≤ s.size + z := by
    have h5 := Nat.div_add_mod (s.size + z - 1) z
    unfold nst
    rw [Nat.mul_comm]; omega
  have HNM : Hid _ := fun m h1 h2 => no_mult z s.size m hz0 h1 h2
  have HT : Hid (strm z s = s ++ zerT (nst z s.size * z - s.size)) := rfl
  have HTS : Hid _ := strm_size z s hz0
  obtain ⟨q, hq⟩ : ∃ q, nst z s.size * z = q := ⟨_, rfl⟩
  have HQ : Hid _ := hq
  rw [hq] at hnl hn1 HNM HT HTS
  obtain ⟨t, ht⟩ : ∃ t, strm z s = t := ⟨_, rfl⟩
  rw [ht] at HT HTS ⊢
  obtain ⟨ns, hns⟩ : ∃ ns, nst z s.size = ns := ⟨_, rfl⟩
  rw [hns] at HQ ⊢
  clear hq ht hns
  have HBX : Hid (Below w.heap.size w (w.alloc (.cells #[.int .i64 K, .int .i64 M, .int .i64 C, .int .i64 V] 23))) := (Below.refl _ _).alloc (Nat.le_refl _) _
  have hO : (w.alloc (.cells #[.int .i64 K, .int .i64 M, .int .i64 C, .int .i64 V] 23)).heap[w.heap.size]? = some (.cells #[.int .i64 K, .int .i64 M, .int .i64 C, .int .i64 V] 23 (0, 0)) := heap_alloc_new _ _
  obtain ⟨s0, hs0⟩ : ∃ s0, w.alloc (.cells #[.int .i64 K, .int .i64 M, .int .i64 C, .int .i64 V] 23) = s0 := ⟨_, rfl⟩
  rw [hs0] at HBX hO
  have d0 : s0.cell? ⟨w.heap.size, 0, none⟩ = some (.int .i64 K) := cell_of_row _ _ _ _ 23 _ hO
  have d1 : s0.cell? ⟨w.heap.size, 1, none⟩ = some (.int .i64 M) := cell_of_row _ _ _ _ 23 _ hO
  have d2 : s0.cell? ⟨w.heap.size, 2, none⟩ = some (.int .i64 C) := cell_of_row _ _ _ _ 23 _ hO
  have HO : Hid _ := hO
  obtain ⟨i9, hi9, z0, z1, z2⟩ := info_parts info9
  clear hO
  go_enter Tryz.func146, Tryz.ntmps146
  go_wp2_with fail
  clear hs0
  go_loop [1] (fun sv => ∃ k : Nat, s.size + k ≤ q ∧ sv = .string (s ++ zerT k)) (fun sv => match sv with | .string u => q - u.size | _ => 0)
  case atStart => exact ⟨0, by omega, by rw [show zerT 0 = (⟨#[]⟩ : ByteArray) from rfl, app_nil]⟩
  case round =>
    obtain ⟨k, hk, rfl⟩ := hrel
    have hus : (s ++ zerT k).size = s.size + k := by rw [ByteArray.size_append, zerT_size]
    by_cases hlt : s.size + k < q
    · have hm := HNM.out (s.size + k) (by omega) hlt
      rw [← hus] at hm
      have HZ : Hid (s ++ zerT k ++ (⟨#[0]⟩ : ByteArray) = s ++ zerT (k + 1)) := zer_snoc s k
      have HUS : Hid (s.size + k = (s ++ zerT k).size) := hus.symm
      have hub : (s ++ zerT k).size ≤ 1000000 := by omega
      obtain ⟨u, hu⟩ : ∃ u, s ++ zerT k = u := ⟨_, rfl⟩
      rw [hu] at hm HZ hub HUS ⊢
      have hmi : (((u.size : Nat) : Int) % (z : Int) != 0) = true := by
        rw [bne_iff_ne]; intro e
        have : ((u.size % z : Nat) : Int) = 0 := by rw [Int.natCast_emod]; exact e
        omega
      have HLT : Hid (s.size + k < q) := hlt
      clear hm hu hus hlt hk
      go_wp2
      go_round
      case rel => exact ⟨k + 1, by have := HLT.out; omega, by rw [HZ.out]⟩
      case measure =>
        show q - (u ++ (⟨#[0]⟩ : ByteArray)).size < q - u.size
        rw [ByteArray.size_append]
        have := HLT.out
        have := HUS.out
        have : (⟨#[0]⟩ : ByteArray).size = 1 := rfl
        omega
    · have ek : k = q - s.size := by omega
      have hut : s ++ zerT k = t := by rw [ek]; exact HT.out.symm
      rw [hut] at hus ⊢
      have hts := HTS.out
      have hmi : (((t.size : Nat) : Int) % (z : Int) != 0) = false := by
        rw [bne_eq_false_iff_eq]
        have : ((t.size % z : Nat) : Int) = 0 := by rw [hts, ← HQ.out, Nat.mul_mod_left]; rfl
        rw [← Int.natCast_emod]; exact this
      have hq1 : q ≤ 1000000 := by omega
      clear hts hus hut ek hlt hk
      have HE0 : Hid (t = t.extract (0 * z) t.size) := by
        show t = _
        rw [Nat.zero_mul, ByteArray.extract_zero_size]
      go_wp2
      go_loopw [1, 5] (fun sv ov wr => ∃ (j : Nat) (oo : Value), j ≤ ns ∧ sv = .string (t.extract (j * z) t.size) ∧ oo = ov ∧ wr.ownsRow s0.heap.size 9 1 oo (j * (K + M)) (blkV t z K M C j) ∧ Below s0.heap.size s0 wr) (fun sv _ _ => match sv with | .string u => u.size | _ => 0)
      case atStart => exact ⟨0, _, by omega, by rw [← HE0.out], rfl, by rw [Nat.zero_mul]; exact own0, Below.refl _ _⟩
      case round =>
        obtain ⟨j, oo, hj, rfl, rfl, ho, hb⟩ := hrel
        obtain ⟨wo, rfl⟩ : ∃ wo, wo = wr := ⟨wr, rfl⟩
        obtain ⟨ao, co, hsv⟩ := own_shape ho
        subst hsv
        have hxl : w.heap.size < s0.heap.size := block_lt_of_cell d0
        have HOr : Hid (wo.ownsRow s0.heap.size 9 1 (.slice ao (j * (K + M)) co) (j * (K + M)) (blkV t z K M C j)) := ho
        have HBr : Hid (Below s0.heap.size s0 wo) := hb
        have p0 : wo.cell? ⟨w.heap.size, 0, none⟩ = some (.int .i64 K) := (hb.cell (p := ⟨w.heap.size, 0, none⟩) hxl).trans d0
        have p1 : wo.cell? ⟨w.heap.size, 1, none⟩ = some (.int .i64 M) := (hb.cell (p := ⟨w.heap.size, 1, none⟩) hxl).trans d1
        have p2 : wo.cell? ⟨w.heap.size, 2, none⟩ = some (.int .i64 C) := (hb.cell (p := ⟨w.heap.size, 2, none⟩) hxl).trans d2
        have hsr : s0.heap.size ≤ wo.heap.size := hb.size
        by_cases hlt : j < ns
        · have hjz : j * z + z ≤ q := by rw [← HQ.out, ← Nat.succ_mul]; exact Nat.mul_le_mul_right z hlt
          have hnsq : ns ≤ q := by rw [← HQ.out]; exact Nat.le_mul_of_pos_right ns hz0
          have hbig : (j + 1) * (K + M) ≤ 255000000 := Nat.le_trans (Nat.mul_le_mul (show j + 1 ≤ 1000000 by omega) hKM) (by omega)
          have HSK : Hid ((j + 1) * (K + M) = j * (K + M) + K + M) := by show _ = _; rw [Nat.succ_mul]; omega
          have HBV : Hid (blkV t z K M C (j + 1) = blkV t z K M C j ++ tV (dat t z C j) K ++ tV (vl (fun i => i) (fun i => K + i) K C (dat t z C j)) M) := by
            show _ = _
            rw [List.append_assoc]; rfl
          have HPC : Hid (∀ i, i < K → dat t z C j i = t.extract (j * z + i * C) (j * z + (i + 1) * C) ∧ j * z + (i + 1) * C ≤ q) := fun i hi => by
            have h1 : (i + 1) * C ≤ z := by rw [← hz]; exact Nat.mul_le_mul_right C hi
            exact ⟨pc_pc t z C j i h1, by omega⟩
          have HDS : Hid (∀ i, i < K → (dat t z C j i).size = C) := fun i hi => by
            obtain ⟨h1, h2⟩ := HPC.out i hi
            rw [h1, ByteArray.size_extract, HTS.out, Nat.min_eq_left h2, Nat.succ_mul]; omega
          obtain ⟨P, hP⟩ : ∃ P, j * z = P := ⟨_, rfl⟩
          rw [hP] at hjz HPC ⊢
          obtain ⟨nJ, hnJ⟩ : ∃ nJ, j * (K + M) = nJ := ⟨_, rfl⟩
          rw [hnJ] at HOr HSK ⊢
          have hnJ2 : nJ + K + M ≤ 255000000 := by rw [← HSK.out]; exact hbig
          have HP : Hid _ := hP
          obtain ⟨SS, hSS⟩ : ∃ SS, dat t z C j = SS := ⟨_, rfl⟩
          rw [hSS] at HBV HPC HDS
          obtain ⟨BB, hBB⟩ : ∃ BB, blkV t z K M C j = BB := ⟨_, rfl⟩
          rw [hBB] at HBV HOr
          have hu0 : (t.extract P t.size).size = q - P := by rw [ByteArray.size_extract, HTS.out]; omega
          have hu1 : ((t.extract P t.size).size : Int) > 0 := by omega
          have hu3 : 0 < (t.extract P t.size).size := by omega
          have HE1 : Hid (t.extract P t.size = t.extract (P + 0 * C) t.size) := by show _ = _; rw [Nat.zero_mul, Nat.add_zero]
          have HMS : Hid ((t.extract (P + z) t.size).size < (t.extract P t.size).size) := by
            show _ < _
            rw [ByteArray.size_extract, ByteArray.size_extract, HTS.out]; omega
          obtain ⟨u, hu⟩ : ∃ u, t.extract P t.size = u := ⟨_, rfl⟩
          rw [hu] at hu1 hu3 HE1 HMS ⊢
          clear ho hb hP hnJ hSS hBB hbig hu0 hu
          go_wp2_with fail
          go_loopw [1, 6, 7] (fun sv dv iv wr => ∃ (i : Nat) (dd : Value), i ≤ K ∧ sv = .string (t.extract (P + i * C) t.size) ∧ dd = dv ∧ iv = .int .i64 i ∧ wr.ownsRow wo.heap.size 9 1 dd i (tV SS i) ∧ Below wo.heap.size wo wr) (fun _ _ iv _ => K - (intOf iv).toNat)
          case atStart => exact ⟨0, _, by omega, by rw [← HE1.out], rfl, rfl, own0, Below.refl _ _⟩
          case round =>
            obtain ⟨i, dd, hi, rfl, rfl, rfl, hd, hbq⟩ := hrel
            obtain ⟨ad, cd, hsv⟩ := own_shape hd
            subst hsv
            have hxr : w.heap.size < wo.heap.size := Nat.lt_of_lt_of_le hxl hsr
            have r0 : wr.cell? ⟨w.heap.size, 0, none⟩ = some (.int .i64 K) := (hbq.cell (p := ⟨w.heap.size, 0, none⟩) hxr).trans p0
            have r1 : wr.cell? ⟨w.heap.size, 1, none⟩ = some (.int .i64 M) := (hbq.cell (p := ⟨w.heap.size, 1, none⟩) hxr).trans p1
            have r2 : wr.cell? ⟨w.heap.size, 2, none⟩ = some (.int .i64 C) := (hbq.cell (p := ⟨w.heap.size, 2, none⟩) hxr).trans p2
            have HDq : Hid (wr.ownsRow wo.heap.size 9 1 (.slice ad i cd) i (tV SS i)) := hd
            have HBq : Hid (Below wo.heap.size wo wr) := hbq
            have hsq : wo.heap.size ≤ wr.heap.size := hbq.size
            by_cases hik : i < K
            · obtain ⟨g1, g2⟩ := HPC.out i hik
              have hCi : (i + 1) * C = i * C + C := Nat.succ_mul i C
              have hus : (t.extract (P + i * C) t.size).size = q - (P + i * C) := by rw [ByteArray.size_extract, HTS.out]; omega
              have hCu : C ≤ (t.extract (P + i * C) t.size).size := by rw [hus]; omega
              have HX1 : Hid ((t.extract (P + i * C) t.size).extract 0 C = SS i) := by
                show _ = _
                rw [g1, ext_ext _ _ _ _ _ (by rw [HTS.out]; omega), Nat.add_zero, hCi, Nat.add_assoc]
              have HX2 : Hid ((t.extract (P + i * C) t.size).extract C (t.extract (P + i * C) t.size).size = t.extract (P + (i + 1) * C) t.size) := by
                show _ = _
                rw [ext_tail t (P + i * C) C (by rw [HTS.out]; omega), hCi, Nat.add_assoc]
              have HTV : Hid (tV SS (i + 1) = tV SS i ++ [.string (SS i)]) := tV_snocq SS i
              obtain ⟨u2, hu2⟩ : ∃ u2, t.extract (P + i * C) t.size = u2 := ⟨_, rfl⟩
              rw [hu2] at hCu HX1 HX2 ⊢
              have hm1 : i + 1 ≤ maxLen := by unfold maxLen; omega
              have hm2 : (i + 1) * 16 ≤ 140737488355328 := by omega
              have hC0 : (0 : Int) ≤ (C : Int) := by omega
              have hCu' : (C : Int) ≤ (u2.size : Int) := by omega
              clear hd hbq hus hu2 g1 g2 hCi
              go_wp2_with (at_builtin; refine wpList_append_own _ rfl (.tmp 30) (.tmp 35) 42 rfl wo.heap.size 9 i9 (.string ⟨#[]⟩) 1 16 Tryz.underlying42 hi9 z0 z1 z2 rfl (by decide) (.slice ad i cd) i (tV SS i) (by simp [Act.eval]) (by exact HDq.out.alloc _) ⟨wr.heap.size, 0, none⟩ 1 1 [.string (u2.extract 0 C)] (by simp [Act.eval]) rfl (by exact cells_new _ [.string (u2.extract 0 C)] 9) (str_one _) hm1 hm2 (by simp; omega) ?_; intro v6 w6 ho6 hg6 hn6; clear hn6; have r6 : w6.cell? ⟨w.heap.size, 2, none⟩ = some (.int .i64 C) := ((((HBq.out.alloc hsq _).grown hg6 (by simp; omega) (fun q hq => own_ge HDq.out q hq))).cell (p := ⟨w.heap.size, 2, none⟩) hxr).trans p2)
              have HB6 : Hid (Below wo.heap.size wo w6) := (HBq.out.alloc hsq _).grown hg6 (by simp; omega) (fun q hq => own_ge HDq.out q hq)
              have HO6 : Hid _ := ho6
              clear ho6 hg6 r6
              go_roundw
              case rel => exact ⟨i + 1, _, by omega, by rw [HX2.out], rfl, by go_num, by rw [HTV.out, ← HX1.out]; exact HO6.out, HB6.out⟩
              case measure => simp [intOf]; omega
            · have ei : K = i := by omega
              subst ei
              obtain ⟨g, ha, hgl, hcs⟩ := tV_row8 HDq.out (by omega)
              subst ha
              have HCS : Hid _ := hcs
              have HPR : Hid (PRef (.good M (vl (fun i => i) (fun i => K + i) K C SS)) K M (.slice (some ⟨g, 0, none⟩) K cd) wr) := pref_good SS K M C g 0 cd wr hK1 hKM (by omega) HDS.out hgl (fun i hi => by rw [Nat.zero_add]; exact HCS.out i hi)
              unfold PRef at HPR
              have hge : wo.heap.size ≤ g := own_ge HDq.out g rfl
              have HOq : Hid (wr.ownsRow s0.heap.size 9 1 (.slice ao nJ co) nJ BB) := own_below HOr.out HBq.out
              have HBsr : Hid (Below s0.heap.size s0 wr) := HBr.out.trans (HBq.out.mono hsr)
              clear hd hbq hcs
              go_wp2_with fail
              refine Calls.mono HPR.out ?_
              rintro e w5 ⟨x, y, rfl, hy, hox, hb5⟩
              subst hy
              obtain ⟨ax, cx, hsx⟩ := own_shape hox
              subst hsx
              have HO5 : Hid (w5.ownsRow s0.heap.size 9 1 (.slice ao nJ co) nJ BB) := own_below HOq.out hb5
              have HB5 : Hid (Below s0.heap.size s0 w5) := HBsr.out.trans (hb5.mono (Nat.le_trans hsr hsq))
              have HC5 : Hid (∀ i, i < K → w5.cell? ⟨g, i, none⟩ = some (.string (SS i))) := fun i hi => (hb5.cell (p := ⟨g, i, none⟩) hgl).trans (HCS.out i hi)
              have HX5 : Hid (w5.ownsRow wr.heap.size 9 1 (.slice ax M cx) M (tV (vl (fun i => i) (fun i => K + i) K C SS) M)) := hox
              have h0r : s0.heap.size ≤ w5.heap.size := HB5.out.size
              have hm1 : nJ + K ≤ maxLen := by unfold maxLen; omega
              have hm2 : (nJ + K) * 16 ≤ 140737488355328 := by omega
              have hm3 : nJ + K + M ≤ maxLen := by unfold maxLen; omega
              have hm4 : (nJ + K + M) * 16 ≤ 140737488355328 := by omega
              clear hox hb5 HPR
              go_upto_region 13 with (at_builtin; refine wpList_append_own _ rfl (.tmp 50) (.tmp 51) 42 rfl s0.heap.size 9 i9 (.string ⟨#[]⟩) 1 16 Tryz.underlying42 hi9 z0 z1 z2 rfl (by decide) (.slice ao nJ co) nJ BB (by simp [Act.eval]) (by exact HO5.out) ⟨g, 0, none⟩ K cd (tV SS K) (by simp [Act.eval]) (by rw [tV_len]; omega) (by exact tV_news HC5.out) (tV_one SS K) hm1 hm2 h0r ?_; intro v6 w6 ho6 hg6 hn6; clear hn6)
              have HO6 : Hid _ := ho6
              have HB6 : Hid (Below s0.heap.size s0 w6) := HB5.out.grown hg6 h0r (fun q hq => own_ge HO5.out q hq)
              have hgl6 : w5.heap.size ≤ w6.heap.size := hg6.size
              have HX6 : Hid (w6.ownsRow wr.heap.size 9 1 (.slice ax M cx) M (tV (vl (fun i => i) (fun i => K + i) K C SS) M)) := HX5.out.kept hg6 (by
                rcases hX : (Value.slice ax M cx).ownBlock with _ | q2
                · exact .inl rfl
                · refine .inr fun e => ?_
                  have h3 := own_ge HX5.out q2 hX
                  have h4 := (own_ltq HOq.out q2 (by rw [← e])).2
                  omega)
              have h0r6 : s0.heap.size ≤ w6.heap.size := by omega
              have HR : Hid ((j + 1) * z = P + z) := by show _ = _; rw [Nat.succ_mul, HP.out]
              clear ho6 hg6
              rcases ax with _ | ⟨gx, ox, px⟩
              · obtain ⟨eM, ec⟩ : M = 0 ∧ cx = 0 := by
                  rcases HX6.out.2 with ⟨h1, h2⟩ | ⟨g, cap, cur, hv, _⟩
                  · simp at h1; exact h1
                  · simp at hv
                have EM : Hid (M = 0) := eM
                have EC : Hid (cx = 0) := ec
                clear eM ec
                have HO9 : Hid (w6.ownsRow s0.heap.size 9 1 v6 (nJ + K + M) (BB ++ tV SS K ++ tV (vl (fun i => i) (fun i => K + i) K C SS) M)) := by
                  have h9 := HO6.out
                  show World.ownsRow _ _ _ _ _ _ _
                  have e0 := EM.out
                  clear HO5 HX5 HX6 HB6 HO6 HBV HSK HOq
                  subst e0
                  rw [show tV (vl (fun i => i) (fun i => K + i) K C SS) 0 = [] from rfl, List.append_nil, Nat.add_zero]
                  exact h9
                go_wp2_with (at_builtin; refine wpList_append_nil rfl (.tmp 53) (.tmp 54) 42 rfl s0.heap.size 9 i9 1 Tryz.underlying42 hi9 v6 (nJ + K) (BB ++ tV SS K) (by simp [Act.eval]) (by exact HO6.out) M cx EM.out EC.out (by simp [Act.eval]) ?_)
                go_roundw
                case rel => exact ⟨j + 1, _, hlt, by rw [HR.out], rfl, by rw [HSK.out, HBV.out]; exact HO9.out, HB6.out⟩
                case measure => exact HMS.out
              · have HX7 : Hid (w6.ownsRow wr.heap.size 9 1 (.slice (some ⟨gx, ox, px⟩) M cx) M (tV (vl (fun i => i) (fun i => K + i) K C SS) M)) := HX6.out
                go_wp2_with (at_builtin; refine wpList_append_own _ rfl (.tmp 53) (.tmp 54) 42 rfl s0.heap.size 9 i9 (.string ⟨#[]⟩) 1 16 Tryz.underlying42 hi9 z0 z1 z2 rfl (by decide) v6 (nJ + K) (BB ++ tV SS K) (by simp [Act.eval]) (by exact HO6.out) ⟨gx, ox, px⟩ M cx (tV (vl (fun i => i) (fun i => K + i) K C SS) M) (by simp [Act.eval]) (by rw [tV_len]; omega) (by exact tV_news8 HX7.out) (tV_one _ M) hm3 hm4 h0r6 ?_; intro v8 w8 ho8 hg8 hn8; clear hn8)
                have HO8 : Hid _ := ho8
                have HB8 : Hid (Below s0.heap.size s0 w8) := HB6.out.grown hg8 h0r6 (fun q hq => own_ge HO6.out q hq)
                clear ho8 hg8
                go_roundw
                case rel => exact ⟨j + 1, _, hlt, by rw [HR.out], rfl, by rw [HSK.out, HBV.out]; exact HO8.out, HB8.out⟩
                case measure => exact HMS.out
        · have ej : j = ns := by omega
          subst ej
          have hu1 : (t.extract (j * z) t.size).size = 0 := by rw [ByteArray.size_extract, HTS.out, HQ.out]; omega
          have HBf : Hid (Below w.heap.size w wo) := HBX.out.trans (HBr.out.mono (Nat.le_of_lt hxl))
          have HOf : Hid (wo.ownsRow w.heap.size 9 1 (.slice ao (j * (K + M)) co) (j * (K + M)) (blkV t z K M C j)) := own_le HOr.out (Nat.le_of_lt hxl)
          obtain ⟨nJ, hnJ⟩ : ∃ nJ, j * (K + M) = nJ := ⟨_, rfl⟩
          rw [hnJ] at HOf ⊢
          obtain ⟨u, hu⟩ : ∃ u, t.extract (j * z) t.size = u := ⟨_, rfl⟩
          rw [hu] at hu1 ⊢
          have hu2 : ¬ ((u.size : Int) > 0) := by omega
          clear ho hb HOr
          go_wp2_with fail
          go_ret
          exact ⟨_, rfl, HOf.out, HBf.out⟩
end Go.Proofs.YtadinjaocnlglaaGreatDoor
