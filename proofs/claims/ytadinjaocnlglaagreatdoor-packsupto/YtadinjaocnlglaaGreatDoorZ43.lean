/-
  Close of the document's Writer.
  A desk: Close on both sides.
-/
import Derived.Test.YtadinjaocnlglaaGreatDoorZ37
import Derived.Test.YtadinjaocnlglaaGreatDoorZ39
import Derived.Test.YtadinjaocnlglaaGreatDoorZ42
import Derived.Test.YtadinjaocnlglaaGreatDoorZ40
import Derived.Test.YtadinjaocnlglaaGreatDoorZ38
namespace Go.Proofs.YtadinjaocnlglaaGreatDoor
open Go.RowKit
set_option maxRecDepth 100000
set_option maxHeartbeats 4000000
theorem flat2_at1 {α : Type} (f g : α → Value) : ∀ (l : List α) (j : Nat) (h : j < l.length), (l.flatMap fun x => [f x, g x])[j * 2 + 1]? = some (g l[j])
  | x :: r, 0, _ => by simp
  | x :: r, j + 1, h => by
    have := flat2_at1 f g r j (by simpa using h)
    simpa [Nat.succ_mul] using this
theorem so_all (l : List (ByteArray × ByteArray)) : soV l l.length = (nmA l).flatMap fun x => [.string ⟨x.toArray⟩, .string ⟨(datA l x).toArray⟩] := by
  unfold soV
  rw [List.take_of_length_le (by rw [nmA_len]; exact Nat.le_refl _)]
theorem so_row {w : World} {B c n : Nat} {a : Option Addr} {l : List (ByteArray × ByteArray)} (hn : l.length = n) (h : w.ownsRow B 72 2 (.slice a n c) n (soV l n)) (j : Nat) (s : List UInt8) (hs : (nmA l)[j]? = some s) :
    ∃ g, a = some ⟨g, 0, none⟩ ∧ B ≤ g ∧ g < w.heap.size ∧ w.cell? ⟨g, j * 2, none⟩ = some (.string ⟨s.toArray⟩) ∧ w.cell? ⟨g, j * 2 + 1, none⟩ = some (.string ⟨(datA l s).toArray⟩) := by
  subst hn
  have hj : j < (nmA l).length := (List.getElem?_eq_some_iff.1 hs).1
  have hjs : (nmA l)[j] = s := (List.getElem?_eq_some_iff.1 hs).2
  have hl := nmA_len l
  rcases h.2 with ⟨_, h'⟩ | ⟨g, cap, cur, hv, hb, hh, _⟩
  · omega
  · obtain rfl : a = some ⟨g, 0, none⟩ := by simp at hv; exact hv.1
    have h1 := h.cellAt (j * 2) (by omega)
    have h2 := h.cellAt (j * 2 + 1) (by omega)
    rw [so_all] at h1 h2
    refine ⟨g, rfl, hb, (Array.getElem?_eq_some_iff.1 hh).1, h1.trans ?_, h2.trans ?_⟩
    · rw [flat2_at (fun x => .string ⟨x.toArray⟩) (fun x => .string ⟨(datA l x).toArray⟩) (nmA l) j hj, hjs]
    · rw [flat2_at1 (fun x => .string ⟨x.toArray⟩) (fun x => .string ⟨(datA l x).toArray⟩) (nmA l) j hj, hjs]
theorem ins_txt {w : World} {B n c C : Nat} {a : Option Addr} {l : List Value} (h : w.ownsRow B 9 1 (.slice a n c) n l) (hl : ∀ u ∈ l, ∃ x : ByteArray, u = .string x ∧ x.size ≤ C) : Ins w a n (bkS l) ∧ ∀ i, i < n → (bkS l i).size ≤ C := by
  have hn : l.length = n := by have := h.1; simpa using this
  refine ⟨fun i hi => ?_, fun i hi => (bkS_get l C hl i (by omega)).2⟩
  rcases h.2 with ⟨_, h'⟩ | ⟨g, cap, cur, hv, hb, hh, _⟩
  · omega
  · obtain rfl : a = some ⟨g, 0, none⟩ := by simp at hv; exact hv.1
    have h1 := h.cellAt i (by omega)
    exact ⟨g, rfl, (Array.getElem?_eq_some_iff.1 hh).1, h1.trans (bkS_get l C hl i (by omega)).1⟩
theorem dat_le (l : List (ByteArray × ByteArray)) (hn : (l.map (·.1)).Nodup) (s : List UInt8) (hs : s ∈ nmA l) : (datA l s).length ≤ sumL l := by
  obtain ⟨o, ho, rfl⟩ := List.mem_map.1 ((nmA_mem l s).1 hs)
  rw [datA_at l hn o ho]
  exact size_le_sum l o ho
theorem nm_le (A : AW) (hA : A.ok) (s : List UInt8) (hs : s ∈ nmA A.ob) : s.length ≤ 255 := by
  obtain ⟨o, ho, rfl⟩ := List.mem_map.1 ((nmA_mem A.ob s).1 hs)
  exact (hA.nm o ho).2
theorem rclose_ok (kt : Nat → Int) (y : Nat) (S : Nat → Prop) (A : AW) (w : World) (hI : YI y S A w) (hA : A.ok) (hc : A.cl = false) (hbr : A.br = none) (hbig : ¬ 512 < A.nb) (hG : Gr kt w) (hy4 : 4 ≤ y) :
    Calls Tryz.prog 98 #[.pointer (some ⟨y, 0, none⟩)] w fun e w' => ∃ v, e = .returned (.tuple #[v, .string (rtT kt A.K A.M A.C A.V (datA A.ob) (nmA A.ob)), .slice none 0 0]) ∧ w'.ownsRow w.heap.size 9 1 v A.V (txV (clT kt A) A.V) ∧ YDid y S A.clA w w' := by
  obtain ⟨vn, vd, vb, hy, hnn, _, hbb, _⟩ := hI.cells
  have c7 : w.cell? ⟨y, 7, none⟩ = some (.bool A.cl) := cell_of_row _ _ _ _ 185 _ hy
  have f7 : w.frozen? ⟨y, 7, none⟩ = false := frozen_of_row _ _ _ _ 185 hy
  rw [hc] at c7
  obtain ⟨W, hW⟩ : ∃ W, w.setCell ⟨y, 7, none⟩ (.bool true) = W := ⟨_, rfl⟩
  have HSW : Hid (W.heap.size = w.heap.size) := by show _ = _; rw [← hW]; simp [World.setCell]
  have HIW : Hid (YI y S A.clA W) := by show YI _ _ _ _; rw [← hW]; exact hI.shut
  have HD : Hid (∀ w', Below W.heap.size W w' → YDid y S A.clA w w') := fun w' hb => YDid.shut hI (by rw [hW]; exact hb)
  have HG : Hid (Gr kt W) := by
    show Gr kt W
    rw [← hW]
    exact ⟨fun j hj => (World.cell?_of_block (set_other w y 7 3 _ (by omega))).trans (hG.ref j hj), fun j hj => (World.cell?_of_block (set_other w y 7 1 _ (by omega))).trans (hG.first j hj), by have := hG.one; simpa [World.setCell] using this⟩
  obtain ⟨vn', vd', vb', hy', hnn', hdd', hbb', _⟩ := HIW.out.cells
  obtain ⟨ad, cd, hv⟩ := own_shape hdd'
  subst hv
  obtain ⟨ab, cb, hv⟩ := own_shape hbb'
  subst hv
  have hyl : y < W.heap.size := HIW.out.lt y HIW.out.sy
  have c0 : W.cell? ⟨y, 0, none⟩ = some (.int .i64 A.K) := cell_of_row _ _ _ _ 185 _ hy'
  have c1 : W.cell? ⟨y, 1, none⟩ = some (.int .i64 A.M) := cell_of_row _ _ _ _ 185 _ hy'
  have c2 : W.cell? ⟨y, 2, none⟩ = some (.int .i64 A.C) := cell_of_row _ _ _ _ 185 _ hy'
  have c3 : W.cell? ⟨y, 3, none⟩ = some (.int .i64 A.V) := cell_of_row _ _ _ _ 185 _ hy'
  have c5 : W.cell? ⟨y, 5, none⟩ = some (.slice ad A.n cd) := cell_of_row _ _ _ _ 185 _ hy'
  have c6 : W.cell? ⟨y, 6, none⟩ = some (.slice ab 0 cb) := by
    have h0 : W.cell? ⟨y, 6, none⟩ = some (.slice ab A.clA.br.toList.length cb) := cell_of_row _ _ _ _ 185 _ hy'
    have : A.clA.br = none := hbr
    rw [this] at h0
    exact h0
  have htot := hA.tot
  have hz0 : 0 < A.K * A.C := Nat.mul_pos hA.K1 hA.C1
  have hz1 : A.K * A.C ≤ 100000 := Nat.le_trans (Nat.mul_le_mul (show A.K ≤ 255 by have := hA.KM; omega) hA.C2) (by omega)
  have HDD : Hid (W.ownsRow 0 9 1 (.slice ad A.n cd) A.n (daV A.ob)) := hdd'
  have HT : Hid (∀ X : World, Below W.heap.size W X → Calls Tryz.prog 143 #[.slice ad A.n cd] X fun e w' => e = .returned (.int .i64 A.tot) ∧ w' = X) := fun X hX => rtotal A ad cd X (own_below HDD.out hX) (by omega)
  have HN : Hid (∀ X : World, Calls Tryz.prog 133 #[.agg #[.int .i64 A.K, .int .i64 A.M, .int .i64 A.C, .int .i64 A.V], .int .i64 A.tot] X fun e w' => e = .returned (.int .i64 A.nb) ∧ Below X.heap.size X w') := fun X => rblocks_any A.K A.M A.C A.V A.tot (A.K * A.C) X rfl hz0 hz1 (by omega) (by have := hA.KM; omega) (by have := hA.KM; omega)
  obtain ⟨nb, hnb⟩ : ∃ nb, A.nb = nb := ⟨_, rfl⟩
  have HNB : Hid _ := hnb
  rw [hnb] at HN hbig
  have hb5 : ¬ ((nb : Int) > 512) := by omega
  have HA : Hid A.ok := hA
  obtain ⟨i0, hi0, z0, z1, z2⟩ := info_parts info103
  clear hy hnn hbb hy' hnn' hdd' hbb' hI hc hbr hA hnb hG
  go_enter Tryz.func98, Tryz.ntmps98
  go_wp2_with fail
  clear hW c7 f7
  go_region_held3 (fun w2 => w2.cell? ⟨y, 0, none⟩ = some (.int .i64 A.K) ∧ w2.cell? ⟨y, 1, none⟩ = some (.int .i64 A.M) ∧ w2.cell? ⟨y, 2, none⟩ = some (.int .i64 A.C) ∧ w2.cell? ⟨y, 3, none⟩ = some (.int .i64 A.V) ∧ w2.cell? ⟨y, 5, none⟩ = some (.slice ad A.n cd)) (go_keep) (first | (go_at_call 143; refine Calls.mono (HT.out _ (by first | exact Below.refl _ _ | exact (Below.refl _ _).drew)) ?_; rintro e w1 ⟨rfl, rfl⟩) | (go_at_call 133; refine Calls.mono (HN.out _) ?_; rintro e w2 ⟨rfl, hb2⟩; have hB2 : Below W.heap.size W w2 := (by first | exact hb2 | exact ((Below.refl _ _).drew).trans hb2); have q0 := (hB2.cell (p := ⟨y, 0, none⟩) hyl).trans c0; have q1 := (hB2.cell (p := ⟨y, 1, none⟩) hyl).trans c1; have q2 := (hB2.cell (p := ⟨y, 2, none⟩) hyl).trans c2; have q3 := (hB2.cell (p := ⟨y, 3, none⟩) hyl).trans c3; have q5 := (hB2.cell (p := ⟨y, 5, none⟩) hyl).trans c5))
  have HB2 : Hid (Below W.heap.size W w2) := hB2
  clear hb2 hB2 q0 q1 q2 q3 q5 HT HN
  go_wp2_with fail
  refine (rsorted_any y S A.clA w2 (HIW.out.open HB2.out) HA.out.n16 HA.out.nd).mono ?_
  rintro e w3 ⟨v8, rfl, ho8, hb8⟩
  obtain ⟨a8, k8, hv8⟩ := own_shape ho8
  subst hv8
  have HB3 : Hid (Below W.heap.size W w3) := HB2.out.trans (hb8.mono HB2.out.size)
  have HO8 : Hid (w3.ownsRow w2.heap.size 72 2 (.slice a8 A.n k8) A.n (soV A.ob A.n)) := ho8
  have HG3 : Hid (Gr kt w3) := HG.out.below HB3.out
  obtain ⟨n, hn⟩ : ∃ n, A.n = n := ⟨_, rfl⟩
  have HNN : Hid (A.ob.length = n) := hn
  have hn2 : A.clA.n = n := hn
  have hn16 : n ≤ 16 := by rw [← hn]; exact HA.out.n16
  rw [hn] at HO8
  rw [hn2]
  obtain ⟨F, hF⟩ : ∃ F, datA A.ob = F := ⟨_, rfl⟩
  obtain ⟨T, hT⟩ : ∃ T, nmA A.ob = T := ⟨_, rfl⟩
  have HTL : Hid (T.length = n) := by show T.length = n; rw [← hT, nmA_len]; exact hn
  have HFT : Hid (∀ s ∈ T, (F s).length ≤ 4096) := fun s hs => by
    rw [← hT] at hs
    rw [← hF]
    have h1 := dat_le A.ob HA.out.nd s hs
    have h2 : sumL A.ob = A.tot := rfl
    omega
  have HTT : Hid (∀ s ∈ T, s.length ≤ 255) := fun s hs => nm_le A HA.out s (by rw [hT]; exact hs)
  have HROW : Hid (∀ (X : World), Below w3.heap.size w3 X → ∀ (j : Nat) (s : List UInt8), T[j]? = some s → ∃ g, a8 = some ⟨g, 0, none⟩ ∧ X.cell? ⟨g, j * 2, none⟩ = some (.string ⟨s.toArray⟩) ∧ X.cell? ⟨g, j * 2 + 1, none⟩ = some (.string ⟨(F s).toArray⟩)) := fun X hX j s hs => by
    rw [← hT] at hs
    obtain ⟨g, h1, _, h2, h3, h4⟩ := so_row HNN.out HO8.out j s hs
    rw [hF] at h4
    exact ⟨g, h1, (hX.cell (p := ⟨g, j * 2, none⟩) h2).trans h3, (hX.cell (p := ⟨g, j * 2 + 1, none⟩) h2).trans h4⟩
  have HFE : Hid _ := hF
  have HTE : Hid _ := hT
  have HNE : Hid _ := hn
  clear ho8 hb8 hF hT hn hn2 HO8 HG
  have hys : W.heap.size ≤ w3.heap.size := HB3.out.size
  go_wp2_with fail
  go_loopw [6, 7, 9] (fun ev sv iv wr => ∃ (i : Nat) (oo : Value), i ≤ n ∧ oo = ev ∧ sv = .string ⟨(datL F T i).toArray⟩ ∧ iv = .int .i64 i ∧ wr.ownsRow w3.heap.size 70 2 oo i (entC F T i) ∧ Below w3.heap.size w3 wr) (fun _ _ iv _ => n - (intOf iv).toNat)
  case atStart => exact ⟨0, _, by omega, rfl, rfl, rfl, own0, Below.refl _ _⟩
  case round =>
    obtain ⟨i, oo, hi, rfl, rfl, rfl, ho, hb⟩ := hrel
    obtain ⟨ao, co, hsv⟩ := own_shape ho
    subst hsv
    have HOr : Hid (wr.ownsRow w3.heap.size 70 2 (.slice ao i co) i (entC F T i)) := ho
    have HBr : Hid (Below w3.heap.size w3 wr) := hb
    have hsr : w3.heap.size ≤ wr.heap.size := hb.size
    by_cases hlt : i < n
    · have hiT : i < T.length := by rw [HTL.out]; exact hlt
      obtain ⟨s, hs⟩ : ∃ s, T[i]? = some s := ⟨_, List.getElem?_eq_getElem hiT⟩
      obtain ⟨g, ha, x0, x1⟩ := HROW.out wr hb i s hs
      subst ha
      have hsm : s ∈ T := List.mem_of_getElem? hs
      have hfs := HFT.out s hsm
      obtain ⟨X, hX⟩ : ∃ X : ByteArray, (⟨s.toArray⟩ : ByteArray) = X := ⟨_, rfl⟩
      obtain ⟨Y, hY⟩ : ∃ Y : ByteArray, (⟨(F s).toArray⟩ : ByteArray) = Y := ⟨_, rfl⟩
      have hYs : Y.size = (F s).length := by rw [← hY]; simp [ByteArray.size]
      have HENT : Hid (entC F T (i + 1) = entC F T i ++ [.string X, .int .i64 Y.size]) := by show _ = _; rw [entC_next F T i s hs, hYs, hX]
      have HDAT : Hid ((⟨(datL F T (i + 1)).toArray⟩ : ByteArray) = (⟨(datL F T i).toArray⟩ : ByteArray) ++ Y) := by
        show _ = _
        rw [datL_next F T i s hs, ← hY]
        apply by_inj
        simp
      have hdl : (⟨(datL F T i).toArray⟩ : ByteArray).size ≤ 65536 := by
        have := datL_len F T i HFT.out (by rw [HTL.out]; exact hn16)
        simpa [ByteArray.size] using this
      have HR1 : Hid (∀ V : World, Below w3.heap.size w3 V → V.cell? ⟨g, i * 2 + 1, none⟩ = some (.string Y)) := fun V hV => by
        obtain ⟨g', h1, _, h3⟩ := HROW.out V hV i s hs
        cases h1
        rw [hY] at h3
        exact h3
      obtain ⟨Z, hZ⟩ : ∃ Z : ByteArray, (⟨(datL F T i).toArray⟩ : ByteArray) = Z := ⟨_, rfl⟩
      rw [hX] at x0
      rw [hY] at x1
      rw [hZ] at HDAT hdl ⊢
      have hsum : Z.size + Y.size ≤ 9223372036854775807 := by omega
      have hsum2 : ¬ 9223372036854775807 < Z.size + Y.size := by omega
      have hsum3 : ¬ Z.size + Y.size > 9223372036854775807 := by omega
      have hin : (i : Int) < (n : Int) := by omega
      have HM1 : Hid (i + 1 ≤ maxLen) := by show i + 1 ≤ maxLen; unfold maxLen; omega
      have HM2 : Hid ((i + 1) * 24 ≤ 140737488355328) := by show _ ≤ _; omega
      have HJ1 : Hid (i + 1 ≤ n) := hlt
      clear ho hb hX hY hZ hs hsm hfs hYs hiT
      go_wp2_with fail
      go_region_law (refine step_append_own rfl (.tmp 63) (.tmp 76) 59 rfl 70 i0 (.agg #[.string ⟨#[]⟩, .int .i64 0]) 2 24 Tryz.underlying59 hi0 z0 z1 z2 rfl (by decide) w3.heap.size (.slice ao i co) i (entC F T i) (by simp [Act.eval]) (by exact (HOr.out.alloc _).drew) ⟨wr.heap.size, 0, none⟩ 1 1 [.string X, .int .i64 Y.size] (by simp [Act.eval]) rfl (by exact cells_new _ [.string X, .int .i64 Y.size] 70) (by intro u hu; simp at hu; rcases hu with rfl | rfl <;> rfl) HM1.out HM2.out (by show w3.heap.size ≤ (wr.alloc _).heap.size; simp; omega) ?_; intro v6 w6 ho6 hg6)
      all_goals
        obtain ⟨a6, c6', hv6⟩ := own_shape ho6
        subst hv6
        have HO6 : Hid _ := ho6
        have HB6 : Hid (Below w3.heap.size w3 w6) := ((HBr.out.alloc hsr _).drew).grown hg6 (by show w3.heap.size ≤ (wr.alloc _).heap.size; simp; omega) (fun q hq => own_ge HOr.out q hq)
        have r1 : w6.cell? ⟨g, i * 2 + 1, none⟩ = some (.string Y) := HR1.out _ HB6.out
        clear ho6 hg6
        go_wp2_with fail
        go_roundw
        case rel =>
          first
            | exact ⟨i + 1, _, HJ1.out, rfl, by rw [HDAT.out], by go_num, by rw [HENT.out]; exact HO6.out, HB6.out⟩
            | ((repeat apply Exists.intro); exact ⟨⟨i + 1, _, HJ1.out, rfl, by rw [HDAT.out], by go_num, by rw [HENT.out]; exact HO6.out, HB6.out⟩, rfl⟩)
        case measure => simp [intOf]; omega
    · have ei : i = n := by omega
      subst ei
      obtain ⟨SS, hSS⟩ : ∃ SS : ByteArray, (⟨(datL F T i).toArray⟩ : ByteArray) = SS := ⟨_, rfl⟩
      have HSS : Hid (dtT F T = SS) := by show _ = _; unfold dtT; rw [HTL.out]; exact hSS
      have HSZ : Hid (SS.size = A.tot) := by
        show _ = _
        rw [← HSS.out, ← HFE.out, ← HTE.out, dat_len A.ob HA.out.nd]
        rfl
      have HNB2 : Hid (nst (A.K * A.C) SS.size * (A.K + A.M) = nb) := by show _ = _; rw [HSZ.out, ← HNB.out]; rfl
      obtain ⟨BL, hBL⟩ : ∃ BL, blkV (strm (A.K * A.C) SS) (A.K * A.C) A.K A.M A.C (nst (A.K * A.C) SS.size) = BL := ⟨_, rfl⟩
      obtain ⟨R, hR⟩ : ∃ R, rtT kt A.K A.M A.C A.V F T = R := ⟨_, rfl⟩
      obtain ⟨VO, hVO⟩ : ∃ VO, voT kt A.K A.M A.C A.V F T = VO := ⟨_, rfl⟩
      have H146 : Hid (∀ V : World, Calls Tryz.prog 146 #[.agg #[.int .i64 A.K, .int .i64 A.M, .int .i64 A.C, .int .i64 A.V], .string SS] V fun e w' => ∃ v, e = .returned v ∧ w'.ownsRow V.heap.size 9 1 v nb BL ∧ Below V.heap.size V w') := fun V => by
        have h := rlaid_any A.K A.M A.C A.V (A.K * A.C) SS V rfl HA.out.K1 HA.out.C1 HA.out.KM (by have := HA.out.C2; omega) (by rw [HSZ.out]; omega)
        rw [HNB2.out, hBL] at h
        exact h
      have H145 : Hid (∀ (V : World) (a : Option Addr) (c : Nat), Below wr.heap.size wr V → V.ownsRow wr.heap.size 9 1 (.slice a nb c) nb BL → Calls Tryz.prog 145 #[.agg #[.int .i64 A.K, .int .i64 A.M, .int .i64 A.C, .int .i64 A.V], .slice ao i co, .slice a nb c] V fun e w' => ∃ v, e = .returned (.tuple #[v, .string R]) ∧ w'.ownsRow V.heap.size 9 1 v A.V (txV VO A.V) ∧ Below V.heap.size V w') := fun V a c hV hv => by
        have hbt := ins_txt hv (C := A.C) (by rw [← hBL]; exact blkV_txt _ _ _ _ _ _)
        have hC := HA.out.C2
        have hV2 := HA.out.V2
        have hKM := HA.out.KM
        have e1 : i = T.length := HTL.out.symm
        have hoE : V.ownsRow w3.heap.size 70 2 (.slice ao i co) i (entC F T T.length) := by rw [← e1]; exact own_below HOr.out hV
        have h := rvolumes_any kt A.K A.M A.C A.V i co nb c ao a (nmT T) (lnT F T) (bkS BL) V (by omega) (by omega) (by omega) HA.out.V1 (by omega) (by omega) ?_ ?_ (ent_cells e1 hoE) (by omega) (fun k hk => by have := hbt.2 k hk; omega) hbt.1 (HG3.out.below (HBr.out.trans (hV.mono hsr)))
        · have e2 : nb = nbT A.K A.M A.C (dtT F T) := by rw [← HNB2.out, HSS.out]; rfl
          have e3 : bkS BL = bkT A.K A.M A.C (dtT F T) := by rw [HSS.out, ← hBL]; rfl
          have eR : R = rootT (ofT kt) (lstT A.K A.M A.C A.V i (nmT T) (lnT F T)) nb fun i => leafT (ofT kt) (bkS BL i) := by
            rw [← hR, e1, e2, e3]; rfl
          have eV : VO = volT (ofT kt) R (lstT A.K A.M A.C A.V i (nmT T) (lnT F T)) nb (fun i => leafT (ofT kt) (bkS BL i)) (bkS BL) A.V := by
            rw [← hVO, ← hR, e1, e2, e3]; rfl
          rw [eV, eR]
          exact h
        · intro j
          unfold nmT
          show (T.getD j []).toArray.size ≤ 1000
          rw [List.size_toArray, List.getD_eq_getElem?_getD]
          cases h : T[j]? with
          | none => simp
          | some x => have := HTT.out x (List.mem_of_getElem? h); simp; omega
        · intro j
          unfold lnT
          split
          · rename_i x h
            have := HFT.out x (List.mem_of_getElem? h)
            omega
          · omega
      have hB3r : Below W.heap.size W wr := HB3.out.trans (hb.mono hys)
      have d0 : wr.cell? ⟨y, 0, none⟩ = some (.int .i64 A.K) := (hB3r.cell (p := ⟨y, 0, none⟩) hyl).trans c0
      have d1 : wr.cell? ⟨y, 1, none⟩ = some (.int .i64 A.M) := (hB3r.cell (p := ⟨y, 1, none⟩) hyl).trans c1
      have d2 : wr.cell? ⟨y, 2, none⟩ = some (.int .i64 A.C) := (hB3r.cell (p := ⟨y, 2, none⟩) hyl).trans c2
      have d3 : wr.cell? ⟨y, 3, none⟩ = some (.int .i64 A.V) := (hB3r.cell (p := ⟨y, 3, none⟩) hyl).trans c3
      have hylr : y < wr.heap.size := Nat.lt_of_lt_of_le hyl hB3r.size
      have HB3r : Hid _ := hB3r
      have HRE : Hid _ := hR
      have HVE : Hid _ := hVO
      rw [hSS]
      clear ho hb hB3r hR hVO hBL hSS c0 c1 c2 c3 c5 c6
      go_wp2_with fail
      go_region_held3 (fun w4 => w4.cell? ⟨y, 0, none⟩ = some (.int .i64 A.K) ∧ w4.cell? ⟨y, 1, none⟩ = some (.int .i64 A.M) ∧ w4.cell? ⟨y, 2, none⟩ = some (.int .i64 A.C) ∧ w4.cell? ⟨y, 3, none⟩ = some (.int .i64 A.V)) (go_keep) (first | (go_at_call 146; refine Calls.mono (H146.out _) ?_; rintro e w4 ⟨v4, rfl, hv4, hb4⟩; obtain ⟨a4, k4, hvv⟩ := own_shape hv4; subst hvv; have hB4 : Below wr.heap.size wr w4 := (by first | exact hb4 | exact ((Below.refl _ _).drew).trans hb4); have q0 := (hB4.cell (p := ⟨y, 0, none⟩) hylr).trans d0; have q1 := (hB4.cell (p := ⟨y, 1, none⟩) hylr).trans d1; have q2 := (hB4.cell (p := ⟨y, 2, none⟩) hylr).trans d2; have q3 := (hB4.cell (p := ⟨y, 3, none⟩) hylr).trans d3) | (go_at_call 145; refine Calls.mono (H145.out w4 a4 k4 hB4 hv4) ?_; rintro e w5 ⟨v5, rfl, ho5, hb5⟩; obtain ⟨a5, k5, hvv⟩ := own_shape ho5; subst hvv; have hB5 : Below wr.heap.size wr w5 := (hB4.trans (hb5.mono hB4.size)); have u0 := (hB5.cell (p := ⟨y, 0, none⟩) hylr).trans d0; have u1 := (hB5.cell (p := ⟨y, 1, none⟩) hylr).trans d1; have u2 := (hB5.cell (p := ⟨y, 2, none⟩) hylr).trans d2; have u3 := (hB5.cell (p := ⟨y, 3, none⟩) hylr).trans d3))
      have HB5 : Hid (Below W.heap.size W w5) := HB3r.out.trans (hB5.mono HB3r.out.size)
      have HO5 : Hid (w5.ownsRow w.heap.size 9 1 (.slice a5 A.V k5) A.V (txV VO A.V)) := own_le ho5 (by have h1 := hB4.size; have h2 := HB3r.out.size; have h3 := HSW.out; omega)
      clear u0 u1 u2 u3 d0 d1 d2 d3 hB5 hB4 hb5 ho5 H145 H146
      go_wp2
      go_ret3
      refine ⟨.slice a5 A.V k5, ?_, ?_, HD.out _ HB5.out⟩
      · rw [HFE.out, HTE.out, HRE.out]; rfl
      · unfold clT
        rw [HFE.out, HTE.out, HVE.out]; exact HO5.out
theorem rclose_any (kt : Nat → Int) (y : Nat) (S : Nat → Prop) (A : AW) (w : World) (hI : YI y S A w) (hA : A.ok) (hG : Gr kt w) (hy4 : 4 ≤ y) :
    Calls Tryz.prog 98 #[.pointer (some ⟨y, 0, none⟩)] w fun e w' => ∃ v c, e = .returned (.tuple #[v, .string (clR kt A), c]) ∧ w'.ownsRow w.heap.size 9 1 v (clN A) (txV (clT kt A) (clN A)) ∧ w'.ownsRow 0 250 2 c A.clE.length (mkL A.clE) ∧ YDid y S A.clA w w' := by
  have hno : A.clE ≠ [] → clN A = 0 ∧ clR kt A = ⟨#[]⟩ := fun h => ⟨by unfold clN; rw [if_neg h], by unfold clR; rw [if_neg h]⟩
  cases hc : A.cl with
  | true =>
    have e1 : A.clE = [(5, (A.n : Int))] := by unfold AW.clE; rw [hc]; rfl
    obtain ⟨e2, e3⟩ := hno (by rw [e1]; simp)
    have e4 : A.clA = A := by unfold AW.clA; rw [← hc]
    rw [e1, e2, e3, e4]
    refine (rclose_cl y S A w hI hc).mono ?_
    rintro e w' ⟨v, rfl, ho, hb⟩
    exact ⟨_, v, rfl, own0, ho, YDid.same hI hb⟩
  | false =>
    cases hbr : A.br with
    | some p =>
      have e1 : A.clE = [(6, (A.n : Int)), p] := by unfold AW.clE; rw [hc, hbr]; rfl
      obtain ⟨e2, e3⟩ := hno (by rw [e1]; simp)
      rw [e1, e2, e3]
      refine (rclose_br y S A p w hI hc hbr).mono ?_
      rintro e w' ⟨v, rfl, ho, hd⟩
      exact ⟨_, v, rfl, own0, ho, hd⟩
    | none =>
      by_cases hbig : 512 < A.nb
      · have e1 : A.clE = [(4, (A.nb : Int))] := by unfold AW.clE; rw [hc, hbr]; simp [hbig]
        obtain ⟨e2, e3⟩ := hno (by rw [e1]; simp)
        rw [e1, e2, e3]
        refine (rclose_big y S A w hI hA hc hbr hbig).mono ?_
        rintro e w' ⟨v, rfl, ho, hd⟩
        exact ⟨_, v, rfl, own0, ho, hd⟩
      · have e1 : A.clE = [] := by unfold AW.clE; rw [hc, hbr]; simp [hbig]
        have e2 : clN A = A.V := by unfold clN; rw [if_pos e1]
        have e3 : clR kt A = rtT kt A.K A.M A.C A.V (datA A.ob) (nmA A.ob) := by unfold clR; rw [if_pos e1]
        rw [e1, e2, e3]
        refine (rclose_ok kt y S A w hI hA hc hbr hbig hG hy4).mono ?_
        rintro e w' ⟨v, rfl, ho, hd⟩
        exact ⟨v, _, rfl, ho, own0, hd⟩
end Go.Proofs.YtadinjaocnlglaaGreatDoor
namespace Go.Proofs.YtadinjaocnlglaaGreatDoor
open Go.RowKit Go.Maps
set_option maxRecDepth 100000
set_option maxHeartbeats 4000000
/-- all that is laid ahead -/
structure Glb (kt : Nat → Int) (w : World) : Prop where
  gd : Gd kt w
  gr : Gr kt w
  ge : Ge w
theorem Glb.low {kt : Nat → Int} {base : Nat} {w w' : World} (h : Glb kt w) (h8 : 8 ≤ base) (hb : Below base w w') : Glb kt w' :=
  ⟨⟨fun j hj => (hb.cell (p := ⟨2, j, none⟩) (by show 2 < base; omega)).trans (h.gd.tab j hj), Nat.le_trans h.gd.one hb.size⟩,
   ⟨fun j hj => (hb.cell (p := ⟨3, j, none⟩) (by show 3 < base; omega)).trans (h.gr.ref j hj), fun j hj => (hb.cell (p := ⟨1, j, none⟩) (by show 1 < base; omega)).trans (h.gr.first j hj), Nat.le_trans h.gr.one hb.size⟩,
   ⟨(hb.cell (p := ⟨0, 0, none⟩) (by show 0 < base; omega)).trans h.ge.err⟩⟩
theorem sameLs (B B2 n : Nat) (a v : Value) (L : Nat → ByteArray) (w : World) (h : LsX B a n L w) (h2 : w.ownsRow B2 9 1 v n (txV L n)) (hn : n ≤ 1000) :
    Calls Tryz.prog 99 #[a, v] w fun e w' => e = .returned (.bool true) ∧ ∃ q, w' = w.drewN q := by
  rcases h with ⟨rfl, rfl⟩ | ⟨g, rfl, hB, hR⟩
  · obtain ⟨a2, k2, rfl⟩ := own_shape h2
    exact same_0 none a2 0 k2 w
  · rcases Nat.eq_zero_or_pos n with h0 | h0
    · subst h0
      obtain ⟨a2, k2, rfl⟩ := own_shape h2
      exact same_0 _ a2 _ k2 w
    · rcases h2.2 with ⟨_, h'⟩ | ⟨g2, cap, cur, rfl, _, hh, _⟩
      · omega
      · exact same_anyq L L n g n g2 cap w (by omega) (fun i hi => hR.cell i hi) (fun i hi => (h2.cellAt i (by omega)).trans (by simp [txV, hi, tI])) (fun _ _ => rfl)
theorem keepLs (base d : Nat) (c : Nat → Nat) (ps : List Pe) (X : List En) (B n : Nat) (a : Value) (L : Nat → ByteArray) (w : World) (h : DK base d c ps X w) (hb : base ≤ w.heap.size) (hl : LsX B a n L w) (hB : base ≤ B) (hc : ∀ g, a.ownBlock = some g → c g = 0) (hn : n ≤ 1000) (hX : X.length ≤ 999999999) :
    Calls Tryz.prog 100 #[.pointer (some ⟨d, 1, none⟩), a] w fun e w' => e = .returned (.tuple #[]) ∧ Below base w w' ∧ ∃ c' x, DK base d c' ps (X ++ [x]) w' := by
  obtain ⟨l0, v, h1, r2, r3, r4, r5⟩ := h.row
  have hdb := (h.lo d (by rw [h.cd]; decide)).1
  rcases hl with ⟨rfl, rfl⟩ | ⟨g, rfl, hBg, hR⟩
  · refine (keep_any l0 (.bool false) X d X.length base v none w.heap.size 0 (fun _ => .nilIface) w w hdb hb (Nat.le_refl _) hb h1 (by omega) (by omega) r2 (Kp.refl w) (.inl ⟨rfl, rfl⟩) (by omega)).mono ?_
    rintro e w' ⟨rfl, v', x, k1, k2, k3, _, k4, k5, k6, k7⟩
    obtain ⟨c', hD, _⟩ := h.keep (g := w.heap.size) (by
      apply Decidable.byContradiction
      intro hne
      have := (h.lo _ hne).2; omega) hb h1 k1 k2 k3 k4 k5 k6 k7 hb
    exact ⟨rfl, k5, c', x, hD⟩
  · refine (keep_any l0 (.bool false) X d X.length base v (some ⟨g, 0, none⟩) g n (tX L) { w with heap := #[] } w hdb (by omega) (Nat.zero_le _) hb h1 (by omega) (by omega) r2 (fun q cur t _ _ hq => by simp at hq) (.inr ⟨rfl, hR⟩) (by omega)).mono ?_
    rintro e w' ⟨rfl, v', x, k1, k2, k3, _, k4, k5, k6, k7⟩
    obtain ⟨c', hD, _⟩ := h.keep (g := g) (hc g rfl) (by omega) h1 k1 k2 k3 k4 k5 k6 k7 hb
    exact ⟨rfl, k5, c', x, hD⟩
theorem Fr.low {S : Nat → Prop} {base : Nat} {w w' : World} (h : Fr S w w') (hS : ∀ j, S j → base ≤ j) (hb : base ≤ w.heap.size) : Below base w w' :=
  ⟨h.calm.1, h.calm.2.1, h.calm.2.2, h.size, fun k hk => h.old k (by omega) (fun hs => by have := hS k hs; omega)⟩
theorem LsX.drew {B n : Nat} {a : Value} {L : Nat → ByteArray} {w w' : World} (h : LsX B a n L w) (hb : Below w.heap.size w w') : LsX B a n L w' := h.kept (fun j _ hj => hb.block j hj)
theorem setXY_get (ps : List Pe) (i : Nat) (A B : AW) (hi : i < ps.length) : ∃ h : i < (setY (setX ps i A) i B).length, (setY (setX ps i A) i B)[i] = { ps[i] with ax := A, ay := B } := ⟨by simp [setX, setY]; exact hi, by simp [setX, setY]⟩
theorem closes_any (kt : Nat → Int) (base d : Nat) (c : Nat → Nat) (ps : List Pe) (X : List En) (i : Nat) (A : AW) (w : World) (h : DK base d c ps X w) (hi : i < ps.length) (hax : ps[i].ax = A) (hay : ps[i].ay = A) (hA : A.ok) (hb : base ≤ w.heap.size) (h8 : 8 ≤ base) (hX : X.length ≤ 999999999) (hG : Glb kt w) :
    Calls Tryz.prog 53 #[.pointer (some ⟨d, 0, none⟩), .pointer (some ⟨ps[i].p, 0, none⟩)] w fun e w' => e = .returned (.bool true) ∧ Below base w w' ∧ ∃ c' x, DK base d c' (setY (setX ps i A.clA) i A.clA) (X ++ [x]) w' := by
  obtain ⟨⟨vo, rt, hp⟩, hpc, hXI, hYI⟩ := h.pen i hi
  rw [hax] at hXI
  rw [hay] at hYI
  obtain ⟨p, hpe⟩ : ∃ p, ps[i].p = p := ⟨_, rfl⟩
  obtain ⟨x, hxe⟩ : ∃ x, ps[i].x = x := ⟨_, rfl⟩
  obtain ⟨y, hye⟩ : ∃ y, ps[i].y = y := ⟨_, rfl⟩
  have HPE : Hid _ := hpe
  have HXE : Hid _ := hxe
  have HYE : Hid _ := hye
  rw [hpe, hxe, hye] at hp
  rw [hpe]
  have hn16 : clN A ≤ 16 := by unfold clN; have := hA.V2; split <;> omega
  have hcll : A.clE.length ≤ 1000 := by
    unfold AW.clE
    split
    · simp
    · split
      · simp
      · split <;> simp
  have H58 : Hid _ := xclose_any kt ps[i].x (fun j => c j = 2 + 2 * i) A w hXI hA (fun j hj => by have := (h.lo j (by omega)).1; omega) hG.gd
  rw [hxe] at H58
  have p0 : w.cell? ⟨p, 0, none⟩ = some (.pointer (some ⟨x, 0, none⟩)) := cell_of_row _ _ _ _ 114 _ hp
  have HD : Hid _ := h
  have HGL : Hid _ := hG
  have HA : Hid _ := hA
  have HY0 : Hid _ := hYI
  clear h hp hpc hXI hYI hG hpe hxe hye
  go_enter Tryz.func53, Tryz.ntmps53
  go_wp2_with fail
  refine Calls.mono H58.out ?_
  rintro e w1 ⟨a1, e1, rfl, hE1, hL1, hX1, hF1⟩
  have hD1 : DK base d c (setX ps i A.clA) X w1 := HD.out.xsame hb i hi (by rw [HXE.out]; exact hX1) hF1
  have hB1 : Below base w w1 := hF1.low (fun j hj => (HD.out.lo j (by omega)).1) hb
  have hb1 : base ≤ w1.heap.size := Nat.le_trans hb hF1.size
  have hi1 : i < (setX ps i A.clA).length := by simpa [setX] using hi
  have hg1 : (setX ps i A.clA)[i] = { ps[i] with ax := A.clA } := by simp [setX]
  obtain ⟨⟨vo1, rt1, hp1⟩, hpc1, _, hYI1⟩ := hD1.pen i hi1
  rw [hg1] at hp1 hpc1 hYI1
  have hYI2 : YI ps[i].y (fun j => c j = 3 + 2 * i) A w1 := by rw [← hay]; exact hYI1
  obtain ⟨T, hT1, hT2, hT3⟩ := hYI2.exact
  have hp1' : w1.heap[p]? = some (.cells #[.pointer (some ⟨x, 0, none⟩), .pointer (some ⟨y, 0, none⟩), vo1, .string rt1] 114 (0, 0)) := by rw [← HPE.out, ← HXE.out, ← HYE.out]; exact hp1
  have p1 : w1.cell? ⟨p, 1, none⟩ = some (.pointer (some ⟨y, 0, none⟩)) := cell_of_row _ _ _ _ 114 _ hp1'
  have H98 : Hid _ := rclose_any kt ps[i].y T A w1 hT2 HA.out (HGL.out.low h8 hB1).gr (by have h1 := hT1 _ hT2.sy; have h2 := (hD1.lo ps[i].y (by omega)).1; omega)
  rw [HYE.out] at H98
  have HD1 : Hid _ := hD1
  have HB1 : Hid _ := hB1
  have HE1 : Hid _ := hE1
  have HL1 : Hid _ := hL1
  have HT1 : Hid _ := hT1
  have HT3 : Hid _ := hT3
  have HG1 : Hid _ := hg1
  have HTW : Hid (∀ j, T j → j < w.heap.size) := fun j hj => (HD.out.lo j (by have := hT1 j hj; omega)).2
  have HLB : Hid (∀ g, a1.ownBlock = some g → w.heap.size ≤ g) := fun g hg => by
    rcases hL1 with ⟨rfl, _⟩ | ⟨g', rfl, h1, _⟩
    · cases hg
    · injection hg with hg; rw [← hg]; exact h1
  have HLS : Hid (a1 = .slice none 0 0 ∨ ∃ g, a1 = .slice (some ⟨g, 0, none⟩) (clN A) (clN A)) := by
    rcases hL1 with ⟨h1, _⟩ | ⟨g', h1, _⟩
    · exact .inl h1
    · exact .inr ⟨g', h1⟩
  clear hD1 hB1 hE1 hL1 hX1 hF1 hpc1 hYI1 hYI2 hT1 hT2 hT3 hp1 hp1' hg1 p0
  go_wp2_with fail
  refine Calls.mono H98.out ?_
  rintro e w2 ⟨v2, e2, rfl, hO2, hE2, hY2⟩
  obtain ⟨c2, hD2, hc2⟩ := HD1.out.ydid hb1 i hi1 (A := A.clA) (T := T) HT1.out (by rw [HG1.out]; show YDid ps[i].y _ _ _ _; rw [HYE.out]; exact hY2)
  obtain ⟨S2, _, _, hF2⟩ := hY2
  have hb2 : base ≤ w2.heap.size := Nat.le_trans hb1 hF2.size
  have hB2 : Below base w w2 := HB1.out.trans (hF2.low (fun j hj => (HD.out.lo j (by have := HT1.out j hj; omega)).1) hb1)
  have hEE : ErrAt w2 e1 A.clE := HE1.out.fr hF2 HT3.out
  have hLL : LsX w.heap.size a1 (clN A) (clT kt A) w2 := LsX.kept HL1.out (fun j h1 h2 => hF2.old j h2 (fun hs => by have := HTW.out j hs; omega))
  have hCC : ∀ g, a1.ownBlock = some g → c2 g = 0 := fun g hg => by
    have h1 := HLB.out g hg
    have h2 : g < w1.heap.size := by
      rcases HL1.out with ⟨h3, _⟩ | ⟨g', h3, _, h4⟩
      · rw [h3] at hg; cases hg
      · rw [h3] at hg; injection hg with hg; rw [← hg]; exact h4.lt
    rw [hc2 g h2]
    apply Decidable.byContradiction
    intro hne
    have := (HD.out.lo g hne).2; omega
  obtain ⟨av, kv, hv2⟩ := own_shape hO2
  subst hv2
  obtain ⟨ae, ke, he2⟩ := own_shape hE2
  subst he2
  have H99 : Hid _ := sameLs w.heap.size w1.heap.size (clN A) a1 (.slice av (clN A) kv) (clT kt A) w2 hLL hO2 (by omega)
  have HD2 : Hid _ := hD2
  have HB2 : Hid _ := hB2
  have HEE : Hid _ := hEE
  have HLL : Hid _ := hLL
  have HCC : Hid _ := hCC
  have HE2 : Hid _ := hE2
  clear hD2 hc2 hF2 hB2 hEE hLL hCC hO2 hE2 p1
  go_wp2_with fail
  refine Calls.mono H99.out ?_
  rintro e w3 ⟨rfl, q3, hw3⟩
  have hbel3 : Below w2.heap.size w2 w3 := by rw [hw3]; exact below_drewN (Below.refl _ _) q3
  have hD3 : DK base d c2 (setY (setX ps i A.clA) i A.clA) X w3 := HD2.out.below hbel3
  obtain ⟨l0, vt, hrow, _⟩ := hD3.row
  have d6 : w3.cell? ⟨d, 6, none⟩ = some (.bool false) := cell_of_row _ _ _ _ 34 _ hrow
  have hB3 : Below base w w3 := HB2.out.trans (hbel3.mono hb2)
  have H50 : Hid _ := dtold_any d A.clE e1 (.slice ae A.clE.length ke) 0 w3 d6 (HGL.out.low h8 hB3).ge (HEE.out.below hbel3) (own_below HE2.out hbel3) hcll
  have HD3 : Hid _ := hD3
  have HB3 : Hid _ := hB3
  have HL3 : Hid (LsX w.heap.size a1 (clN A) (clT kt A) w3) := LsX.drew HLL.out hbel3
  have hb3 : base ≤ w3.heap.size := Nat.le_trans hb2 hbel3.size
  clear hw3 hbel3 hD3 hrow hB3 d6
  go_wp2_with fail
  refine Calls.mono H50.out ?_
  rintro e w4 ⟨rfl, hb4'⟩
  have hD4 : DK base d c2 (setY (setX ps i A.clA) i A.clA) X w4 := HD3.out.below hb4'
  have H100 : Hid _ := keepLs base d c2 (setY (setX ps i A.clA) i A.clA) X w.heap.size (clN A) a1 (clT kt A) w4 hD4 (Nat.le_trans hb3 hb4'.size) (LsX.drew HL3.out hb4') hb HCC.out (by omega) hX
  have HB4 : Hid (Below base w w4) := HB3.out.trans (hb4'.mono hb3)
  have hb4 : base ≤ w4.heap.size := Nat.le_trans hb3 hb4'.size
  clear hD4 hb4'
  go_wp2_with fail
  refine Calls.mono H100.out ?_
  rintro e w5 ⟨rfl, hb5', c5, xe, hD5⟩
  have HB5 : Hid (Below base w w5) := HB4.out.trans hb5'
  have HD5 : Hid _ := hD5
  obtain ⟨hi5, hg5⟩ := setXY_get ps i A.clA A.clA hi
  obtain ⟨⟨vo5, rt5, hp5⟩, hpc5, _⟩ := hD5.pen i hi5
  rw [hg5] at hp5 hpc5
  have hp5' : w5.heap[p]? = some (.cells #[.pointer (some ⟨x, 0, none⟩), .pointer (some ⟨y, 0, none⟩), vo5, .string rt5] 114 (0, 0)) := by rw [← HPE.out, ← HXE.out, ← HYE.out]; exact hp5
  have s2 : w5.cell? ⟨p, 2, none⟩ = some vo5 := cell_of_row _ _ _ _ 114 _ hp5'
  have s3 : w5.cell? ⟨p, 3, none⟩ = some (.string rt5) := cell_of_row _ _ _ _ 114 _ hp5'
  have g2 : w5.frozen? ⟨p, 2, none⟩ = false := frozen_of_row _ _ _ _ 114 hp5'
  have g3 : w5.frozen? ⟨p, 3, none⟩ = false := frozen_of_row _ _ _ _ 114 hp5'
  have HPB : Hid (base ≤ p) := by rw [← HPE.out]; exact (hD5.lo ps[i].p (by rw [hpc5]; decide)).1
  have HST : Hid (DK base d c5 (setY (setX ps i A.clA) i A.clA) (X ++ [xe]) ((w5.setCell ⟨p, 2, none⟩ (.slice av (clN A) kv)).setCell ⟨p, 3, none⟩ (.string (clR kt A)))) := by
    have h1 := (hD5.store i hi5 2 (.slice av (clN A) kv) (.inl rfl)).store i hi5 3 (.string (clR kt A)) (.inr ⟨rfl, _, rfl⟩)
    rw [hg5] at h1
    have e0 : ({ ps[i] with ax := A.clA, ay := A.clA } : Pe).p = p := HPE.out
    rw [e0] at h1
    exact h1
  obtain ⟨le, hle⟩ : ∃ le, A.clE.length = le := ⟨_, rfl⟩
  rw [hle] at *
  clear hD5 hb5' hp5 hp5' hpc5 hg5
  by_cases hz : le = 0
  · subst hz
    go_wp2
    go_ret
    exact ⟨rfl, (HB5.out.setCell (by simpa using HPB.out) _).setCell (by simpa using HPB.out) _, c5, xe, HST.out⟩
  · have hz2 : ((le : Int) == 0) = false := by simp; omega
    go_wp2
    go_ret
    exact ⟨rfl, HB5.out, c5, xe, HD5.out⟩
end Go.Proofs.YtadinjaocnlglaaGreatDoor
