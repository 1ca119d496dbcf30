/-
  The document's volumes.
  The walks of vaultref's mul, inverse.
  Plain: the weights of the document's answer are those of Lagrange's sum; the walk of vaultref's shares.
-/
import Derived.Test.YtadinjaocnlglaaGreatDoorZ37
import Derived.Test.YtadinjaocnlglaaGreatDoorZ03
import Derived.WalkKit
import Derived.WalkSpells
import Derived.WalkLawsBesides
import Derived.Test.YtadinjaocnlglaaGreatDoorZ10
namespace Go.Proofs.YtadinjaocnlglaaGreatDoor
open Go.RowKit
set_option maxRecDepth 100000
set_option maxHeartbeats 4000000
theorem ins_own {w : World} {B n c : Nat} {a : Option Addr} {L : Nat → ByteArray} (h : w.ownsRow B 9 1 (.slice a n c) n (txV L n)) : Ins w a n L := fun i hi => by
  rcases h.2 with ⟨_, h'⟩ | ⟨g, cap, cur, hv, hb, hh, _⟩
  · omega
  · obtain rfl : a = some ⟨g, 0, none⟩ := by simp at hv; exact hv.1
    have h1 := h.cellAt i (by omega)
    refine ⟨g, rfl, (Array.getElem?_eq_some_iff.1 hh).1, h1.trans ?_⟩
    simp [txV, hi]
theorem rooted_own (kt : Nat → Int) (l : ByteArray) (L : Nat → ByteArray) (n B : Nat) (v : Value) (w : World) (hl : l.size ≤ 1000000000) (hG : Gr kt w) (hL : ∀ i, i < n → (L i).size ≤ 32) (ho : w.ownsRow B 9 1 v n (txV L n)) :
    Calls Tryz.prog 86 #[.string l, v] w fun e w' => e = .returned (.string (⟨#[2]⟩ ++ l ++ topT (ofT kt) n L)) ∧ Below w.heap.size w w' := by
  refine rooted_any kt l L n v w hl hG hL ?_
  rcases ho.2 with ⟨h1, h2⟩ | ⟨g, cap, cur, hv, hb, hh, hnc, hcm, _⟩
  · exact .inl ⟨h1, h2⟩
  · refine .inr ⟨g, cap, hv, hnc, by unfold maxLen at hcm; omega, (Array.getElem?_eq_some_iff.1 hh).1, fun i hi => ?_⟩
    subst hv
    have h1 := ho.cellAt i (by omega)
    rw [Nat.zero_add]
    refine h1.trans ?_
    simp [txV, tI, hi]
theorem rvolumes_any (kt : Nat → Int) (K M C V nE capE nB capB : Nat) (aE aB : Option Addr) (Nm : Nat → ByteArray) (Ln : Nat → Nat) (Bk : Nat → ByteArray) (w : World) (hK : K ≤ 100000) (hM : M ≤ 100000) (hC : C ≤ 100000) (hV1 : 1 ≤ V) (hV : V ≤ 1000) (hnE : nE ≤ 1000)
    (hN : ∀ j, (Nm j).size ≤ 1000) (hLn : ∀ j, Ln j ≤ 100000) (hE : ∀ j, j < nE → ∃ b, aE = some ⟨b, 0, none⟩ ∧ b < w.heap.size ∧ w.cell? ⟨b, j * 2, none⟩ = some (.string (Nm j)) ∧ w.cell? ⟨b, j * 2 + 1, none⟩ = some (.int .i64 (Ln j)))
    (hnB : nB ≤ 10000) (hBk : ∀ i, i < nB → (Bk i).size ≤ 1000) (hIB : Ins w aB nB Bk) (hG : Gr kt w) :
    Calls Tryz.prog 145 #[.agg #[.int .i64 K, .int .i64 M, .int .i64 C, .int .i64 V], .slice aE nE capE, .slice aB nB capB] w fun e w' => ∃ v, e = .returned (.tuple #[v, .string (rootT (ofT kt) (lstT K M C V nE Nm Ln) nB fun i => leafT (ofT kt) (Bk i))]) ∧
      w'.ownsRow w.heap.size 9 1 v V (txV (volT (ofT kt) (rootT (ofT kt) (lstT K M C V nE Nm Ln) nB fun i => leafT (ofT kt) (Bk i)) (lstT K M C V nE Nm Ln) nB (fun i => leafT (ofT kt) (Bk i)) Bk V) V) ∧ Below w.heap.size w w' := by
  have hls : (lstT K M C V nE Nm Ln).size ≤ 1000000000 := by
    rw [lstT_eq]
    have h1 := lsE_size (hdT K M C V nE) Nm Ln hN nE
    have h2 : (hdT K M C V nE).size ≤ 29 := by
      have a1 := vint_size K
      have a2 := vint_size M
      have a3 := vint_size C
      have a4 := vint_size V
      have a5 := vint_size nE
      have a6 : (⟨#[86, 76, 84, 49]⟩ : ByteArray).size = 4 := rfl
      unfold hdT
      rw [ByteArray.size_append, ByteArray.size_append, ByteArray.size_append, ByteArray.size_append, ByteArray.size_append, a6]; omega
    omega
  have HLIST : Hid (∀ W, Below w.heap.size w W → Calls Tryz.prog 85 #[.agg #[.int .i64 K, .int .i64 M, .int .i64 C, .int .i64 V], .slice aE nE capE] W fun e w' => e = .returned (.string (lstT K M C V nE Nm Ln)) ∧ Below W.heap.size W w') := fun W hW =>
    rlist_any K M C V nE capE aE Nm Ln W hK hM hC (by omega) (by omega) hN hLn (fun j hj => by
      obtain ⟨b, h1, h2, h3, h4⟩ := hE j hj
      exact ⟨b, h1, Nat.lt_of_lt_of_le h2 hW.size, (hW.cell (p := ⟨b, j * 2, none⟩) h2).trans h3, (hW.cell (p := ⟨b, j * 2 + 1, none⟩) h2).trans h4⟩)
  have hrt : rootT (ofT kt) (lstT K M C V nE Nm Ln) nB (fun i => leafT (ofT kt) (Bk i)) = ofT kt (⟨#[2]⟩ ++ lstT K M C V nE Nm Ln ++ topT (ofT kt) nB fun i => leafT (ofT kt) (Bk i)) := rfl
  have HRT : Hid _ := hrt
  obtain ⟨l, hl⟩ : ∃ l, lstT K M C V nE Nm Ln = l := ⟨_, rfl⟩
  rw [hl] at hls HLIST HRT ⊢
  have hrs : (rootT (ofT kt) l nB fun i => leafT (ofT kt) (Bk i)).size ≤ 32 := by rw [HRT.out]; exact Nat.le_of_eq (ofT_size kt _)
  obtain ⟨R, hR⟩ : ∃ R, (rootT (ofT kt) l nB fun i => leafT (ofT kt) (Bk i)) = R := ⟨_, rfl⟩
  rw [hR] at HRT hrs ⊢
  obtain ⟨LF, hLF⟩ : ∃ LF : Nat → ByteArray, (fun i => leafT (ofT kt) (Bk i)) = LF := ⟨_, rfl⟩
  have HLV : Hid (∀ W, Below w.heap.size w W → Calls Tryz.prog 193 #[.slice aB nB capB] W fun e w' => ∃ v, e = .returned v ∧ w'.ownsRow W.heap.size 9 1 v nB (txV LF nB) ∧ Below W.heap.size W w') := fun W hW => by
    rw [← hLF]
    exact leaves_any kt Bk aB nB capB W (by omega) (fun i hi => Nat.le_trans (hBk i hi) (by omega)) (hG.below hW) (fun i hi => by
      obtain ⟨b, h1, h2, h3⟩ := hIB i hi
      exact ⟨b, h1, Nat.lt_of_lt_of_le h2 hW.size, (hW.cell (p := ⟨b, i, none⟩) h2).trans h3⟩)
  have HLS : Hid (∀ i, (LF i).size ≤ 32) := fun i => by rw [← hLF]; exact Nat.le_of_eq (ofT_size kt _)
  rw [hLF] at HRT ⊢
  obtain ⟨VO, hVO⟩ : ∃ VO : Nat → ByteArray, volT (ofT kt) R l nB LF Bk V = VO := ⟨_, rfl⟩
  have HVO : Hid _ := hVO
  rw [hVO]
  clear hVO
  have HIB : Hid _ := hIB
  have HBK : Hid _ := hBk
  have HG : Hid _ := hG
  obtain ⟨i9, hi9, z0, z1, z2⟩ := info_parts info9
  have HBX : Hid (Below w.heap.size w (w.alloc (.cells #[.int .i64 K, .int .i64 M, .int .i64 C, .int .i64 V] 23))) := (Below.refl _ _).alloc (Nat.le_refl _) _
  have hO : (w.alloc (.cells #[.int .i64 K, .int .i64 M, .int .i64 C, .int .i64 V] 23)).heap[w.heap.size]? = some (.cells #[.int .i64 K, .int .i64 M, .int .i64 C, .int .i64 V] 23 (0, 0)) := heap_alloc_new _ _
  have HO : Hid _ := hO
  clear hl hR hLF hrt hE hN hLn hIB hBk hG hO
  go_enter Tryz.func145, Tryz.ntmps145
  go_wp2_with fail
  refine Calls.mono (HLIST.out _ HBX.out) ?_
  rintro e w1 ⟨rfl, hb1⟩
  have HB1 : Hid (Below w.heap.size w w1) := HBX.out.trans (hb1.mono HBX.out.size)
  have HO1 : Hid (w1.heap[w.heap.size]? = some (.cells #[.int .i64 K, .int .i64 M, .int .i64 C, .int .i64 V] 23 (0, 0))) := by
    show _ = _
    rw [hb1.block _ (by simp)]; exact HO.out
  clear hb1 HO
  go_wp2_with fail
  refine Calls.mono (HLV.out _ HB1.out) ?_
  rintro e w2 ⟨v2, rfl, ho2, hb2⟩
  have HB2 : Hid (Below w.heap.size w w2) := HB1.out.trans (hb2.mono HB1.out.size)
  have HO2 : Hid (w2.heap[w.heap.size]? = some (.cells #[.int .i64 K, .int .i64 M, .int .i64 C, .int .i64 V] 23 (0, 0))) := by
    show _ = _
    rw [hb2.block _ (Array.getElem?_eq_some_iff.1 HO1.out).1]; exact HO1.out
  obtain ⟨aL, cL, hsv⟩ := own_shape ho2
  subst hsv
  have HOW2 : Hid _ := ho2
  clear hb2 HO1 HB1 ho2
  go_wp2_with fail
  refine (rooted_own kt l LF nB _ _ w2 hls (HG.out.below HB2.out) (fun i _ => HLS.out i) HOW2.out).mono ?_
  rintro e w3 ⟨rfl, hb3⟩
  have HB3 : Hid (Below w.heap.size w w3) := HB2.out.trans (hb3.mono HB2.out.size)
  have HO3 : Hid (w3.heap[w.heap.size]? = some (.cells #[.int .i64 K, .int .i64 M, .int .i64 C, .int .i64 V] 23 (0, 0))) := by
    show _ = _
    rw [hb3.block _ (Array.getElem?_eq_some_iff.1 HO2.out).1]; exact HO2.out
  have HOW3 : Hid _ := own_below HOW2.out hb3
  have htp : (topT (ofT kt) nB LF).size ≤ 35184372088832 := topT_le (ofT kt) 35184372088832 (ofT_le kt) nB LF (fun i _ => Nat.le_trans (HLS.out i) (by omega))
  have hin : ((⟨#[2]⟩ : ByteArray) ++ l ++ topT (ofT kt) nB LF).size ≤ 140737488351232 := by
    rw [ByteArray.size_append, ByteArray.size_append]
    have : (⟨#[2]⟩ : ByteArray).size = 1 := rfl
    omega
  have HDG : Hid _ := rdigest_any kt (⟨#[2]⟩ ++ l ++ topT (ofT kt) nB LF) w3 hin (HG.out.below HB3.out)
  rw [← HRT.out] at HDG
  obtain ⟨tx, htx⟩ : ∃ tx, (⟨#[2]⟩ : ByteArray) ++ l ++ topT (ofT kt) nB LF = tx := ⟨_, rfl⟩
  rw [htx] at HDG ⊢
  clear hb3 HO2 HB2 HOW2 htx htp hin
  go_wp2_with fail
  refine Calls.mono HDG.out ?_
  rintro e w4 ⟨rfl, hb4⟩
  have HB4 : Hid (Below w.heap.size w w4) := HB3.out.trans (hb4.mono HB3.out.size)
  have HO4 : Hid (w4.heap[w.heap.size]? = some (.cells #[.int .i64 K, .int .i64 M, .int .i64 C, .int .i64 V] 23 (0, 0))) := by
    show _ = _
    rw [hb4.block _ (Array.getElem?_eq_some_iff.1 HO3.out).1]; exact HO3.out
  have HOW4 : Hid _ := own_below HOW3.out hb4
  have hxl : w.heap.size < w4.heap.size := (Array.getElem?_eq_some_iff.1 HO4.out).1
  have HW4 : Hid (w.heap.size ≤ w4.heap.size) := HB4.out.size
  clear hb4 HO3 HB3 HOW3 HDG HLIST HLV HBX
  go_wp2_with fail
  go_loopw [11, 12] (fun ov vv wr => ∃ (v : Nat) (oo : Value), v ≤ V ∧ oo = ov ∧ vv = .int .i64 v ∧ wr.ownsRow w4.heap.size 9 1 oo v (txV VO v) ∧ Below w4.heap.size w4 wr) (fun _ vv _ => V - (intOf vv).toNat)
  case atStart => exact ⟨0, _, by omega, rfl, rfl, own0, Below.refl _ _⟩
  case round =>
    obtain ⟨v, oo, hv, rfl, rfl, ho, hb⟩ := hrel
    obtain ⟨ao, co, hs⟩ := own_shape ho
    subst hs
    have hr : wr.heap[w.heap.size]? = some (.cells #[.int .i64 K, .int .i64 M, .int .i64 C, .int .i64 V] 23 (0, 0)) := by rw [hb.block _ hxl]; exact HO4.out
    have p0 : wr.cell? ⟨w.heap.size, 0, none⟩ = some (.int .i64 K) := cell_of_row _ _ _ _ 23 _ hr
    have p1 : wr.cell? ⟨w.heap.size, 1, none⟩ = some (.int .i64 M) := cell_of_row _ _ _ _ 23 _ hr
    have p2 : wr.cell? ⟨w.heap.size, 2, none⟩ = some (.int .i64 C) := cell_of_row _ _ _ _ 23 _ hr
    have p3 : wr.cell? ⟨w.heap.size, 3, none⟩ = some (.int .i64 V) := cell_of_row _ _ _ _ 23 _ hr
    have HOr : Hid (wr.ownsRow w4.heap.size 9 1 (.slice ao v co) v (txV VO v)) := ho
    have HBr : Hid (Below w4.heap.size w4 wr) := hb
    have HBwr : Hid (Below w.heap.size w wr) := HB4.out.trans (hb.mono HW4.out)
    by_cases hlt : v < V
    · have HVL : Hid (Calls Tryz.prog 194 #[.agg #[.int .i64 K, .int .i64 M, .int .i64 C, .int .i64 V], .string l, .string R, .slice aL nB cL, .slice aB nB capB, .int .i64 v] wr fun e w' => e = .returned (.string (VO v)) ∧ Below wr.heap.size wr w') := by
        rw [← HVO.out]
        exact rvolume_any kt K M C V v nB cL capB l R aL aB LF Bk wr (by omega) (by omega) hlt (by omega) hls hrs (fun i _ => HLS.out i) (fun i hi => Nat.le_trans (HBK.out i hi) (by omega)) (HG.out.below HBwr.out)
          (ins_own (own_low HOW4.out (fun r hr => own_lt HOW4.out r hr) HBr.out)) (fun i hi => by
            obtain ⟨b, h1, h2, h3⟩ := HIB.out i hi
            exact ⟨b, h1, Nat.lt_of_lt_of_le h2 HBwr.out.size, (HBwr.out.cell (p := ⟨b, i, none⟩) h2).trans h3⟩)
      have HT : Hid (txV VO (v + 1) = txV VO v ++ [.string (VO v)]) := txV_snoc VO v
      have hm1 : v + 1 ≤ maxLen := by unfold maxLen; omega
      have hm2 : (v + 1) * 16 ≤ 140737488355328 := by omega
      have hws : w4.heap.size ≤ wr.heap.size := hb.size
      clear ho hb hr
      go_wp2_with fail
      refine Calls.mono HVL.out ?_
      rintro e w5 ⟨rfl, hb5⟩
      obtain ⟨tv, htv⟩ : ∃ tv, VO v = tv := ⟨_, rfl⟩
      rw [htv] at HT ⊢
      have HO5 : Hid (w5.ownsRow w4.heap.size 9 1 (.slice ao v co) v (txV VO v)) := own_below HOr.out hb5
      have HB5 : Hid (Below w4.heap.size w4 w5) := HBr.out.trans (hb5.mono hws)
      have hws5 : w4.heap.size ≤ w5.heap.size := HB5.out.size
      clear htv hb5 p0 p1 p2 p3 HVL
      go_wp2_with (at_builtin; refine wpList_append_own _ rfl (.tmp 36) (.tmp 38) 42 rfl w4.heap.size 9 i9 (.string ⟨#[]⟩) 1 16 Tryz.underlying42 hi9 z0 z1 z2 rfl (by decide) (.slice ao v co) v (txV VO v) (by simp [Act.eval]) (by exact HO5.out.alloc _) ⟨w5.heap.size, 0, none⟩ 1 1 [.string tv] (by simp [Act.eval]) rfl (by exact cells_new _ [.string tv] 9) (str_one _) hm1 hm2 (by simp; omega) ?_; intro v6 w6 ho6 hg6 hn6; clear hn6)
      have HB6 : Hid (Below w4.heap.size w4 w6) := (HB5.out.alloc hws5 _).grown hg6 (by simp; omega) (fun q hq => own_ge HO5.out q hq)
      have HO6 : Hid _ := ho6
      clear ho6 hg6
      go_wp2
      go_roundw
      case rel => exact ⟨v + 1, _, by omega, rfl, by go_num, by rw [HT.out]; exact HO6.out, HB6.out⟩
      case measure => simp [intOf]; omega
    · have e : v = V := by omega
      subst e
      clear ho hb hr p0 p1 p2
      go_wp2
      go_ret2
      exact ⟨_, rfl, own_le HOr.out HW4.out, HBwr.out⟩
end Go.Proofs.YtadinjaocnlglaaGreatDoor
namespace Go.Proofs.YtadinjaocnlglaaGreatDoor
open Go.RowKit
set_option maxRecDepth 100000
theorem gmS_0 : ∀ n A P, gmS n A 0 P = P
  | 0, _, _ => rfl
  | n + 1, A, P => by rw [gmS]; simp; exact gmS_0 n _ P
theorem i64_xor_nat (a b : Nat) (ha : a < 9223372036854775808) (hb : b < 9223372036854775808) : bits .xor .i64 (a : Int) (b : Int) = ((a ^^^ b : Nat) : Int) := by
  have hx : a ^^^ b < 2 ^ 63 := Nat.xor_lt_two_pow (by omega) (by omega)
  have e : ∀ x : Nat, x < 9223372036854775808 → (BitVec.ofInt 64 (x : Int)).toNat = x := fun x h => by
    rw [BitVec.toNat_ofInt]; omega
  show IntKind.i64.wrap ((BitVec.ofInt 64 (a : Int) ^^^ BitVec.ofInt 64 (b : Int)).toNat : Int) = _
  rw [BitVec.toNat_xor, e a ha, e b hb, IntKind.wrap_i64]
  omega
theorem xt_B : allB 256 (fun A => decide (2 * A < 256) && (xt A == 2 * A) || decide (256 ≤ 2 * A) && (xt A == (2 * A) ^^^ 285)) = true := by decide +kernel
theorem xt_lo (A : Nat) (h : A < 256) (h2 : 2 * A < 256) : xt A = 2 * A := by
  have := allB_at _ 256 xt_B A h
  simp at this
  omega
theorem xt_hi (A : Nat) (h : A < 256) (h2 : 256 ≤ 2 * A) : xt A = (2 * A) ^^^ 285 := by
  have := allB_at _ 256 xt_B A h
  simp at this
  rcases this with h3 | h3
  · omega
  · exact h3.2
set_option maxHeartbeats 1000000 in
theorem mul_any (a b : Nat) (w : World) (ha : a < 256) (hb : b < 256) :
    Calls Tryz.prog 278 #[.int .i64 a, .int .i64 b] w fun e w' => e = .returned (.int .i64 (gm a b : Nat)) ∧ w' = w := by
  go_enter Tryz.func278, Tryz.ntmps278
  go_wp2
  go_loop [0, 1, 5] (fun x y p => ∃ k A B P : Nat, k ≤ 8 ∧ B < 2 ^ (8 - k) ∧ x = .int .i64 A ∧ y = .int .i64 B ∧ p = .int .i64 P ∧ A < 256 ∧ P < 256 ∧ gmS (8 - k) A B P = gm a b) (fun _ y _ => (intOf y).toNat)
  case atStart => exact ⟨0, a, b, 0, by omega, hb, rfl, rfl, rfl, ha, by omega, rfl⟩
  case round =>
    obtain ⟨k, A, B, P, hk, hB, rfl, rfl, rfl, hA, hP, hg⟩ := hrel
    have HG : Hid _ := hg
    have HBB : Hid _ := hB
    have hB8 : B < 256 := Nat.lt_of_lt_of_le hB (by exact Nat.pow_le_pow_right (n := 2) (by omega) (show 8 - k ≤ 8 by omega))
    clear hg hB
    by_cases hlt : 0 < B
    · have hk8 : k < 8 := by
        rcases Nat.lt_or_ge k 8 with h | h
        · exact h
        · exfalso
          have := HBB.out
          rw [show 8 - k = 0 by omega] at this
          omega
      have HN : Hid (gmS (8 - (k + 1)) (xt A) (B / 2) (if B % 2 = 1 then P ^^^ A else P) = gm a b) := by
        show gmS (8 - (k + 1)) (xt A) (B / 2) (if B % 2 = 1 then P ^^^ A else P) = gm a b
        rw [← HG.out, show 8 - k = (8 - (k + 1)) + 1 by omega, gmS]
      have HB2 : Hid (B / 2 < 2 ^ (8 - (k + 1))) := by
        show B / 2 < 2 ^ (8 - (k + 1))
        have := HBB.out
        rw [show 8 - k = (8 - (k + 1)) + 1 by omega, Nat.pow_succ] at this
        omega
      have hx1 := i64_xor_nat P A (by omega) (by omega)
      have hx2 := i64_xor_nat (2 * A) 285 (by omega) (by omega)
      have HX1 : Hid _ := hx1
      have HX2 : Hid (bits .xor .i64 (2 * (A : Int)) 285 = ((2 * A ^^^ 285 : Nat) : Int)) := by show bits .xor .i64 (2 * (A : Int)) 285 = _; rw [← hx2]; rfl
      clear hx1 hx2
      have hlt' : (0 : Int) < (B : Int) := by omega
      by_cases hodd : B % 2 = 1
      · by_cases hov : 256 ≤ 2 * A
        · have ho' : (((B : Int) % 2) == 1) = true := by simp; omega
          have hv' : decide ((256 : Int) ≤ 2 * (A : Int)) = true := by simp; omega
          go_wp2
          go_round
          case rel =>
            refine ⟨k + 1, xt A, B / 2, (if B % 2 = 1 then P ^^^ A else P), by omega, HB2.out, ?_, by go_num, ?_, xt_lt A hA, ?_, HN.out⟩
            · rw [xt_hi A hA hov, HX2.out]
            · rw [if_pos hodd, HX1.out]
            · rw [if_pos hodd]; exact Nat.xor_lt_two_pow (n := 8) hP hA
          case measure => simp [intOf]; omega
        · have ho' : (((B : Int) % 2) == 1) = true := by simp; omega
          have hv' : decide ((256 : Int) ≤ 2 * (A : Int)) = false := by simp; omega
          go_wp2
          go_round
          case rel =>
            refine ⟨k + 1, xt A, B / 2, (if B % 2 = 1 then P ^^^ A else P), by omega, HB2.out, ?_, by go_num, ?_, xt_lt A hA, ?_, HN.out⟩
            · rw [xt_lo A hA (by omega)]; go_num
            · rw [if_pos hodd, HX1.out]
            · rw [if_pos hodd]; exact Nat.xor_lt_two_pow (n := 8) hP hA
          case measure => simp [intOf]; omega
      · by_cases hov : 256 ≤ 2 * A
        · have ho' : (((B : Int) % 2) == 1) = false := by simp; omega
          have hv' : decide ((256 : Int) ≤ 2 * (A : Int)) = true := by simp; omega
          go_wp2
          go_round
          case rel =>
            refine ⟨k + 1, xt A, B / 2, (if B % 2 = 1 then P ^^^ A else P), by omega, HB2.out, ?_, by go_num, ?_, xt_lt A hA, ?_, HN.out⟩
            · rw [xt_hi A hA hov, HX2.out]
            · rw [if_neg hodd]
            · rw [if_neg hodd]; exact hP
          case measure => simp [intOf]; omega
        · have ho' : (((B : Int) % 2) == 1) = false := by simp; omega
          have hv' : decide ((256 : Int) ≤ 2 * (A : Int)) = false := by simp; omega
          go_wp2
          go_round
          case rel =>
            refine ⟨k + 1, xt A, B / 2, (if B % 2 = 1 then P ^^^ A else P), by omega, HB2.out, ?_, by go_num, ?_, xt_lt A hA, ?_, HN.out⟩
            · rw [xt_lo A hA (by omega)]; go_num
            · rw [if_neg hodd]
            · rw [if_neg hodd]; exact hP
          case measure => simp [intOf]; omega
    · have e : B = 0 := by omega
      have HE : Hid (gm a b = P) := by show gm a b = P; rw [← HG.out, e, gmS_0]
      clear HG HBB
      subst e
      rw [show (((0 : Nat)) : Int) = 0 from rfl]
      go_wp2
      go_ret
      exact ⟨by rw [HE.out]; rfl, rfl⟩
/-- the n-th power -/
def gp (a : Nat) : Nat → Nat
  | 0 => 1
  | n + 1 => gm (gp a n) a
theorem gp_lt (a : Nat) : ∀ n, gp a n < 256
  | 0 => by show 1 < 256; omega
  | n + 1 => gm_lt _ _ (gp_lt a n)
theorem gp_B : allB 256 (fun a => gp a 254 == gi a) = true := by decide +kernel
theorem gp_gi (a : Nat) (h : a < 256) : gp a 254 = gi a := by
  have := allB_at _ 256 gp_B a h
  simpa using this
set_option maxHeartbeats 1000000 in
theorem rinv_any (a : Nat) (w : World) (ha : a < 256) :
    Calls Tryz.prog 307 #[.int .i64 a] w fun e w' => e = .returned (.int .i64 (gi a : Nat)) ∧ w' = w := by
  have HE : Hid (gi a = gp a 254) := (gp_gi a ha).symm
  go_enter Tryz.func307, Tryz.ntmps307
  go_wp2
  go_loop [4, 3] (fun iv p => ∃ k : Nat, k ≤ 254 ∧ iv = .int .i64 k ∧ p = .int .i64 (gp a k : Nat)) (fun iv _ => 254 - (intOf iv).toNat)
  case atStart => exact ⟨0, by omega, rfl, rfl⟩
  case round =>
    obtain ⟨k, hk, rfl, rfl⟩ := hrel
    have hp := gp_lt a k
    have HN : Hid (gp a (k + 1) = gm (gp a k) a) := rfl
    obtain ⟨q, hq⟩ : ∃ q, gp a k = q := ⟨_, rfl⟩
    rw [hq] at hp HN ⊢
    by_cases hlt : k < 254
    · clear hq
      go_wp2_with fail
      refine (mul_any q a _ hp ha).mono ?_
      rintro e w' ⟨rfl, rfl⟩
      go_wp2
      go_round
      case rel => exact ⟨k + 1, by omega, by go_num, by rw [HN.out]⟩
      case measure => simp [intOf]; omega
    · have e : k = 254 := by omega
      have HQ : Hid (gi a = q) := by show gi a = q; rw [HE.out, ← hq, e]
      clear hq
      go_wp2
      go_ret
      exact ⟨by rw [HQ.out]; rfl, rfl⟩
end Go.Proofs.YtadinjaocnlglaaGreatDoor
namespace Go.Proofs.YtadinjaocnlglaaGreatDoor
open Go.RowKit
set_option maxRecDepth 100000
namespace Fld
variable {F : Type} (K : Fld F)
/-- the product of all but the i-th -/
def prd (d : Nat → F) (i : Nat) : Nat → F
  | 0 => K.one
  | k + 1 => if k = i then prd d i k else K.mul (prd d i k) (d k)
theorem prd_lo (d : Nat → F) (i : Nat) : ∀ k, k ≤ i → K.prd d i k = K.ahd d k
  | 0, _ => rfl
  | k + 1, h => by rw [prd, if_neg (by omega), prd_lo d i k (by omega)]; rfl
theorem prd_hi (d : Nat → F) (i : Nat) : ∀ t, K.prd d i (i + 1 + t) = K.mul (K.ahd d i) (K.bhd d (i + 1 + t) t)
  | 0 => by
    show K.prd d i (i + 1) = K.mul _ K.one
    rw [prd, if_pos rfl, prd_lo K d i i (by omega), K.mul_one]
  | t + 1 => by
    rw [show i + 1 + (t + 1) = (i + 1 + t) + 1 by omega, prd, if_neg (by omega), prd_hi d i t, bhd_front K _ (i + 1 + t) t (by omega)]
    rw [K.mul_assoc, K.mul_comm (K.bhd _ _ t)]
theorem prd_oth (d : Nat → F) (n i : Nat) (hi : i < n) : K.prd d i n = K.oth d n i := by
  have := prd_hi K d i (n - 1 - i)
  rwa [show i + 1 + (n - 1 - i) = n by omega] at this
end Fld
/-- the same, of numbers -/
def prd (d : Nat → Nat) (i : Nat) : Nat → Nat
  | 0 => 1
  | k + 1 => if k = i then prd d i k else gm (prd d i k) (d k)
theorem prd_lt (d : Nat → Nat) (i : Nat) : ∀ k, prd d i k < 256
  | 0 => by show 1 < 256; omega
  | k + 1 => by
    rw [prd]
    split
    · exact prd_lt d i k
    · exact gm_lt _ _ (prd_lt d i k)
theorem prd_gf (d : Nat → Nat) (D : Nat → N8) (n : Nat) (hD : ∀ l, l < n → (D l).1 = d l) (i : Nat) : ∀ k, k ≤ n → prd d i k = (GF.prd D i k).1
  | 0, _ => rfl
  | k + 1, h => by
    rw [prd, Fld.prd]
    by_cases e : k = i
    · rw [if_pos e, if_pos e]; exact prd_gf d D n hD i k (by omega)
    · rw [if_neg e, if_neg e]
      show gm (prd d i k) (d k) = gm (GF.prd D i k).1 (D k).1
      rw [prd_gf d D n hD i k (by omega), hD k (by omega)]
theorem prd_oth (d : Nat → Nat) (n i : Nat) (hd : ∀ l, l < n → d l < 256) (hi : i < n) : prd d i n = oth d n i := by
  have hD : ∀ l, l < n → (m8 (d l)).1 = d l := fun l hl => m8_val _ (hd l hl)
  rw [prd_gf d (fun l => m8 (d l)) n hD i n (Nat.le_refl _), oth_gf d (fun l => m8 (d l)) n hD i hi, Fld.prd_oth GF _ n i hi]
/-- THE WEIGHT OF THE DOCUMENT'S ANSWER IS THE PROGRAM'S -/
theorem share_wt (p : Nat → Nat) (n x i : Nat) (hx : x < 256) (hp : ∀ l, l < n → p l < 256) (hi : i < n) : gm (prd (fun l => x ^^^ p l) i n) (gi (hgt p i n)) = wt p n x i := by
  unfold wt scl
  rw [(gm_ones _ (gi_lt _ (hgt_lt p i n))).2.1, prd_oth (fun l => x ^^^ p l) n i (fun l hl => Nat.xor_lt_two_pow (n := 8) hx (hp l hl)) hi]
set_option maxHeartbeats 2000000 in
theorem shares_any (p : Nat → Nat) (b n cap x : Nat) (w : World) (hn : n ≤ 1000) (hx : x < 256) (hp : ∀ i, i < n → p i < 256) (hb0 : b < w.heap.size) (hc : Cl w b n (pI p)) :
    Calls Tryz.prog 277 #[.slice (some ⟨b, 0, none⟩) n cap, .int .i64 x] w fun e w' => e = .returned (.slice (some ⟨w.heap.size, 0, none⟩) n n) ∧ Rw w' w.heap.size n 3 (pI (wt p n x)) ∧ Below w.heap.size w w' := by
  have HC : Hid _ := hc
  have HP : Hid _ := hp
  clear hc hp
  have hmk := run_make_row' (P := Tryz.prog) 39 3 (.int .i64 0) 8 Tryz.underlying39 info3 rfl .i64 .i64 n (by omega) (by omega)
  go_enter Tryz.func277, Tryz.ntmps277
  go_wp2
  go_loopw [6] (fun i wr => ∃ k : Nat, k ≤ n ∧ i = .int .i64 k ∧ Below w.heap.size w wr ∧ Rw wr w.heap.size n 3 (part' k (pI (wt p n x)) (.int .i64 0))) (fun i _ => n - (intOf i).toNat)
  case atStart => exact ⟨0, by omega, rfl, (Below.refl _ _).alloc (Nat.le_refl _) _, (Rw.made w n 3 (.int .i64 0)).to (fun j _ => (part_0 _ _ j).symm)⟩
  case round =>
    obtain ⟨i, hi, rfl, hb, hR⟩ := hrel
    by_cases hlt : i < n
    · have HB : Hid _ := hb
      have HR : Hid _ := hR
      clear hb hR
      have hpi := HP.out i hlt
      go_wp2
      go_loopw [9, 7, 8] (fun j a c wq => ∃ k : Nat, k ≤ n ∧ j = .int .i64 k ∧ a = .int .i64 ((prd (fun l => x ^^^ p l) i k : Nat) : Int) ∧ c = .int .i64 ((hgt p i k : Nat) : Int) ∧ ∃ q, wq = wr.drewN q) (fun j _ _ _ => n - (intOf j).toNat)
      case atStart => exact ⟨0, by omega, rfl, rfl, rfl, 0, rfl⟩
      case round =>
        obtain ⟨k, hk, rfl, rfl, rfl, q, hq⟩ := hrel
        have HB2 : Hid (Below w.heap.size w wr) := by show Below _ _ _; rw [hq]; exact below_drewN HB.out q
        have HR2 : Hid (Rw wr w.heap.size n 3 (part' i (pI (wt p n x)) (.int .i64 0))) := by show Rw _ _ _ _ _; rw [hq]; exact HR.out
        have HQ : Hid _ := hq
        clear hq
        have hA := prd_lt (fun l => x ^^^ p l) i k
        have hH := hgt_lt p i k
        by_cases hlk : k < n
        · have c3 : wr.cell? ⟨b, i, none⟩ = some (.int .i64 ((p i : Nat) : Int)) := Cl.below HC.out HB2.out hb0 i hlt
          have c4 : wr.cell? ⟨b, k, none⟩ = some (.int .i64 ((p k : Nat) : Int)) := Cl.below HC.out HB2.out hb0 k hlk
          have hpk := HP.out k hlk
          have hx1 : x ^^^ p k < 256 := Nat.xor_lt_two_pow (n := 8) hx hpk
          have hx2 : p i ^^^ p k < 256 := Nat.xor_lt_two_pow (n := 8) hpi hpk
          have HX1 : Hid _ := i64_xor_nat x (p k) (by omega) (by omega)
          have HX2 : Hid _ := i64_xor_nat (p i) (p k) (by omega) (by omega)
          by_cases hki : k = i
          · have hne : ((k : Int) != (i : Int)) = false := by rw [bne_eq_false_iff_eq]; omega
            go_wp2
            go_roundw
            case rel => exact ⟨k + 1, by omega, by go_num, by rw [prd, if_pos hki], by rw [hgt, if_pos hki], q, HQ.out⟩
            case measure => simp [intOf]; omega
          · have hne : ((k : Int) != (i : Int)) = true := by rw [bne_iff_ne]; omega
            go_wp2_with fail
            rw [HX1.out]
            refine (mul_any _ _ _ hA hx1).mono ?_
            rintro e w2 ⟨rfl, rfl⟩
            go_wp2
            go_quiet (first | (go_at_call 278; rw [HX2.out]; exact Calls.quiet_of_same (mul_any _ _ _ hH hx2)))
            go_wp2
            go_roundw
            case rel => exact ⟨k + 1, by omega, by go_num, by rw [prd, if_neg hki], by rw [hgt, if_neg hki], _, by rw [HQ.out]; rw [World.drewN_drewN]⟩
            case measure => simp [intOf]; omega
        · have e : k = n := by omega
          subst e
          have c1 := HR2.out.cell i hlt
          have c2 := HR2.out.free i
          have hgi := gi_lt _ hH
          have HW : Hid _ := share_wt p k x i hx HP.out hlt
          obtain ⟨hh, hhe⟩ : ∃ hh, hgt p i k = hh := ⟨_, rfl⟩
          obtain ⟨aa, hae⟩ : ∃ aa, prd (fun l => x ^^^ p l) i k = aa := ⟨_, rfl⟩
          rw [hhe] at hH HW hgi ⊢
          rw [hae] at hA HW ⊢
          clear hhe hae
          go_wp2_with fail
          refine (rinv_any _ _ hH).mono ?_
          rintro e w2 ⟨rfl, rfl⟩
          go_wp2_with fail
          refine (mul_any _ _ _ hA hgi).mono ?_
          rintro e w2 ⟨rfl, rfl⟩
          rw [HW.out]
          go_wp2
          go_roundw
          case rel => exact ⟨i + 1, by omega, by go_num, HB2.out.setCell (Nat.le_refl _) _, (HR2.out.put i _).to (fun j _ => by rw [← part_step]; rfl)⟩
          case measure => simp [intOf]; omega
    · have e : i = n := by omega
      subst e
      go_wp2
      go_ret
      exact ⟨rfl, hR.to (fun j hj => by simp [part', hj]), hb⟩
end Go.Proofs.YtadinjaocnlglaaGreatDoor
