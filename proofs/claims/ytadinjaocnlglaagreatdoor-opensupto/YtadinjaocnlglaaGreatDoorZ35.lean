/-
  The document's read.
-/
import Derived.Test.YtadinjaocnlglaaGreatDoorZ34
namespace Go.Proofs.YtadinjaocnlglaaGreatDoor
open Go.RowKit
set_option maxRecDepth 100000
set_option maxHeartbeats 4000000
theorem rread (kt : Nat → Int) (t : ByteArray) (w : World) (hG : Gr kt w) (ht : t.size ≤ 140737488351232) : Calls Tryz.prog 84 #[.string t] w fun e w' => ∃ p v, e = .returned (.tuple #[p, v]) ∧ RRd w t (rdE kt t) p v w' := by
 have HG : Hid _ := hG
 clear hG
 by_cases hbig : 60000 < t.size
 ·have HE : Hid (rdE kt t = some (4, t.size)) := by show _ = _; unfold rdE; rw [if_pos hbig]
  have hbi : (60000 : Int) < (t.size : Int) := by omega
  go_enter Tryz.func84, Tryz.ntmps84
  go_wp2_with fail
  refine Calls.mono (at_marks 4 t.size w w (Below.refl _ _)) ?_
  rintro e w1 ⟨v, rfl, ho, hB⟩
  obtain ⟨va, vc, rfl⟩ := own_shape ho
  have HO : Hid _ := ho
  have HB : Hid _ := hB
  clear ho hB
  go_wp2_with fail
  go_ret2
  exact ⟨_, _, rfl, RRd.no HE.out HB.out HO.out⟩
 ·have hbi : ¬ (60000 : Int) < (t.size : Int) := by omega
  obtain ⟨s1, hs1⟩ : ∃ x, (RS.on t).word ⟨#[86, 79, 76, 49]⟩ = x := ⟨_, rfl⟩
  obtain ⟨s2, hs2⟩ : ∃ x, (s1.bytes 32).1 = x := ⟨_, rfl⟩
  obtain ⟨root, hroot⟩ : ∃ x, (s1.bytes 32).2 = x := ⟨_, rfl⟩
  obtain ⟨s3, hs3⟩ : ∃ x, s2.word ⟨#[86, 76, 84, 49]⟩ = x := ⟨_, rfl⟩
  obtain ⟨s4, hs4⟩ : ∃ x, (s3.num 1 255).1 = x := ⟨_, rfl⟩
  obtain ⟨K, hK⟩ : ∃ x, (s3.num 1 255).2 = x := ⟨_, rfl⟩
  obtain ⟨s5, hs5⟩ : ∃ x, (s4.num 0 (255 - (K : Int))).1 = x := ⟨_, rfl⟩
  obtain ⟨M, hM⟩ : ∃ x, (s4.num 0 (255 - (K : Int))).2 = x := ⟨_, rfl⟩
  obtain ⟨s6, hs6⟩ : ∃ x, (s5.num 1 64).1 = x := ⟨_, rfl⟩
  obtain ⟨C, hC⟩ : ∃ x, (s5.num 1 64).2 = x := ⟨_, rfl⟩
  obtain ⟨s7, hs7⟩ : ∃ x, (s6.num 1 16).1 = x := ⟨_, rfl⟩
  obtain ⟨V, hV⟩ : ∃ x, (s6.num 1 16).2 = x := ⟨_, rfl⟩
  obtain ⟨s8, hs8⟩ : ∃ x, (CEnts s7).1 = x := ⟨_, rfl⟩
  obtain ⟨es, hes⟩ : ∃ x, (CEnts s7).2 = x := ⟨_, rfl⟩
  have hA : tA t = (s2, root) := by unfold tA; rw [hs1, ← hs2, ← hroot]
  have hL : tL t = ⟨s8, K, M, C, V, es⟩ := by
   unfold tL
   rw [hA]
   show s2.list = _
   unfold RS.list
   simp only []
   rw [hs3, hs4, hK, hs5, hM, hs6, hC, hs7, hV, ← hs8, ← hes]
   rfl
  obtain ⟨cnt, hcnt⟩ : ∃ x, (tL t).cnt = x := ⟨_, rfl⟩
  have hcnt' : nst (K * C) (lenE es) * (K + M) = cnt := by rw [← hcnt, hL]; rfl
  obtain ⟨s9, hs9⟩ : ∃ x, (s8.num 0 ((V : Int) - 1)).1 = x := ⟨_, rfl⟩
  obtain ⟨num, hnum⟩ : ∃ x, (s8.num 0 ((V : Int) - 1)).2 = x := ⟨_, rfl⟩
  have hB : tB t = (s9, num) := by unfold tB; rw [hL]; show s8.num 0 ((V : Int) - 1) = _; rw [← hs9, ← hnum]
  obtain ⟨s10, hs10⟩ : ∃ x, (s9.bytes (cnt * 32)).1 = x := ⟨_, rfl⟩
  obtain ⟨lv, hlv⟩ : ∃ x, (s9.bytes (cnt * 32)).2 = x := ⟨_, rfl⟩
  have hCC : tC t = (s10, lv) := by unfold tC; rw [hB, hcnt, ← hs10, ← hlv]
  have HK : Hid (K ≤ 255) := by show K ≤ 255; rw [← hK]; exact num_hi s3 1 255
  have HLok : Hid (s8.wrong = false → 1 ≤ K ∧ K + M ≤ 255 ∧ 1 ≤ C ∧ C ≤ 64 ∧ 1 ≤ V ∧ V ≤ 16 ∧ es.length ≤ 16 ∧ lenE es ≤ 4096 ∧ ∀ x ∈ es, x.1.size ≤ 255) := by
   intro h8
   have h1 : (tL t).st.wrong = false := by rw [hL]; exact h8
   have h2 := list_ok h1
   have h3 := list_len (tA t).1
   have h4 := list_sum (tA t).1
   have e : (tA t).1.list = ⟨s8, K, M, C, V, es⟩ := hL
   rw [e] at h2 h3 h4
   refine ⟨h2.2.1, h2.2.2.1, h2.2.2.2.1, h2.2.2.2.2.1, h2.2.2.2.2.2.1, h2.2.2.2.2.2.2, h3, h4, ?_⟩
   rw [← hes]
   exact ents_nm _ _ _ _ _ (by simp)
  have HE1 : Hid (s8.wrong = true → rdE kt t = some (7, s8.field)) := fun h8 => by
   have := rdE_1 (kt := kt) (t := t) (by omega) (by rw [hL]; exact h8)
   rw [hL] at this; exact this
  have HE2 : Hid (s8.wrong = false → 512 < cnt → rdE kt t = some (7, s8.next)) := fun h8 hc => by
   have := rdE_2 (kt := kt) (t := t) (by omega) (by rw [hL]; exact h8) (by rw [hcnt]; exact hc)
   rw [hL] at this; exact this
  have HE3 : Hid (cnt ≤ 512 → s10.wrong = true → rdE kt t = some (7, s10.field)) := fun hc h10 => by
   have := rdE_3 (kt := kt) (t := t) (by omega) (by rw [hcnt]; exact hc) (by rw [hCC]; exact h10)
   rw [hCC] at this; exact this
  have HE4 : Hid (cnt ≤ 512 → s10.wrong = false → s9.wrong = false ∧ (RS.on t).told.st = s10 ∧ (RS.on t).told.root = root ∧ (RS.on t).told.L = ⟨s8, K, M, C, V, es⟩ ∧ (RS.on t).told.num = num ∧ (RS.on t).told.lv = lv) := fun hc h10 => by
   have := rd_4 (t := t) (by rw [hcnt]; exact hc) (by rw [hCC]; exact h10)
   rw [hL, hB, hCC, hA] at this; exact this
  have C1 : Hid (∀ X c, CR c (RS.on t) X → Calls Tryz.prog 129 #[.pointer (some ⟨c, 0, none⟩), .string ⟨#[86, 79, 76, 49]⟩] X fun e w' => e = .returned (.tuple #[]) ∧ CDid c s1 X w') := fun X c h => by rw [← hs1]; exact cword c _ _ X h (by decide)
  have C2 : Hid (∀ X c, CR c s1 X → Calls Tryz.prog 130 #[.pointer (some ⟨c, 0, none⟩), .int .i64 32] X fun e w' => e = .returned (.string root) ∧ CDid c s2 X w') := fun X c h => by rw [← hs2, ← hroot]; exact ctake c _ 32 X h (by decide)
  have C3 : Hid (∀ X c, CR c s2 X → Calls Tryz.prog 129 #[.pointer (some ⟨c, 0, none⟩), .string ⟨#[86, 76, 84, 49]⟩] X fun e w' => e = .returned (.tuple #[]) ∧ CDid c s3 X w') := fun X c h => by rw [← hs3]; exact cword c _ _ X h (by decide)
  have C4 : Hid (∀ X c, CR c s3 X → Calls Tryz.prog 131 #[.pointer (some ⟨c, 0, none⟩), .int .i64 1, .int .i64 255] X fun e w' => e = .returned (.int .i64 K) ∧ CDid c s4 X w') := fun X c h => by rw [← hs4, ← hK]; exact cnum c _ 1 255 X h (by decide)
  have C5 : Hid (∀ X c, CR c s4 X → Calls Tryz.prog 131 #[.pointer (some ⟨c, 0, none⟩), .int .i64 0, .int .i64 (255 - (K : Int))] X fun e w' => e = .returned (.int .i64 M) ∧ CDid c s5 X w') := fun X c h => by rw [← hs5, ← hM]; exact cnum c _ 0 _ X h (by omega)
  have C6 : Hid (∀ X c, CR c s5 X → Calls Tryz.prog 131 #[.pointer (some ⟨c, 0, none⟩), .int .i64 1, .int .i64 64] X fun e w' => e = .returned (.int .i64 C) ∧ CDid c s6 X w') := fun X c h => by rw [← hs6, ← hC]; exact cnum c _ 1 64 X h (by decide)
  have C7 : Hid (∀ X c, CR c s6 X → Calls Tryz.prog 131 #[.pointer (some ⟨c, 0, none⟩), .int .i64 1, .int .i64 16] X fun e w' => e = .returned (.int .i64 V) ∧ CDid c s7 X w') := fun X c h => by rw [← hs7, ← hV]; exact cnum c _ 1 16 X h (by decide)
  have C8 : Hid (∀ X c, CR c s7 X → Calls Tryz.prog 132 #[.pointer (some ⟨c, 0, none⟩)] X fun e w' => ∃ v es', e = .returned v ∧ w'.ownsRow X.heap.size 70 2 v es'.length (enV es') ∧ CDid c s8 X w' ∧ es'.length ≤ 16 ∧ (s8.wrong = false → es' = es)) := fun X c h => by rw [← hs8, ← hes]; exact centries c s7 X h
  have C9 : Hid (∀ X c, CR c s8 X → Calls Tryz.prog 131 #[.pointer (some ⟨c, 0, none⟩), .int .i64 0, .int .i64 ((V : Int) - 1)] X fun e w' => e = .returned (.int .i64 num) ∧ CDid c s9 X w') := fun X c h => by
   rw [← hs9, ← hnum]
   refine cnum c _ 0 _ X h ?_
   have : V ≤ 16 := by rw [← hV]; exact num_hi s6 1 16
   omega
  have C10 : Hid (∀ X c, CR c s9 X → cnt ≤ 512 → Calls Tryz.prog 130 #[.pointer (some ⟨c, 0, none⟩), .int .i64 (cnt * 32 : Nat)] X fun e w' => e = .returned (.string lv) ∧ CDid c s10 X w') := fun X c h hc => by rw [← hs10, ← hlv]; exact ctake c _ _ X h (by omega)
  have HV16 : Hid (V ≤ 16) := by show V ≤ 16; rw [← hV]; exact num_hi s6 1 16
  have HLV : Hid (s10.wrong = false → lv.size = cnt * 32 ∧ s10.text = t ∧ lv = t.extract s9.next (s9.next + cnt * 32) ∧ cnt * 32 ≤ t.size - s9.next ∧ s9.text = t) := by
   intro h10
   have h9 : s9.wrong = false := by rw [← hs10] at h10; exact bytes_ok h10
   have h10' : (s9.bytes (cnt * 32)).1.wrong = false := by rw [hs10]; exact h10
   have tx9 : s9.text = t := by
    have h1 : Adv (RS.on t) s9 := by
     have a1 : Adv (RS.on t) s2 := by rw [← hs2, ← hs1]; exact (word_adv _ _).trans (bytes_adv _ _)
     have a2 : Adv s2 s8 := by
      have := list_adv s2
      have e : s2.list = ⟨s8, K, M, C, V, es⟩ := by have h := hL; unfold tL at h; rw [hA] at h; exact h
      rw [e] at this; exact this
     rw [← hs9]
     exact (a1.trans a2).trans (num_adv _ _ _)
    exact h1.1
   refine ⟨by rw [← hlv]; exact bytes_sz h10', ?_, ?_, ?_, tx9⟩
   ·rw [← hs10, (bytes_adv s9 _).1, tx9]
   ·rw [← hlv, ← tx9]
    unfold RS.bytes at h10' ⊢
    rw [h9] at h10' ⊢
    simp only [Bool.false_eq_true, if_false] at h10' ⊢
    split at h10'
    ·cases h10'
    ·rename_i hn
     rw [if_neg hn]
   ·unfold RS.bytes at h10'
    rw [h9] at h10'
    simp only [Bool.false_eq_true, if_false] at h10'
    split at h10'
    ·cases h10'
    ·rename_i hn
     rw [tx9] at hn
     omega
  clear hs1 hs2 hroot hs3 hs4 hK hs5 hM hs6 hC hs7 hV hs8 hes hA hL hcnt hs9 hnum hB hs10 hlv hCC
  go_enter Tryz.func84, Tryz.ntmps84
  go_wp2_with fail
  obtain ⟨X0, hX0⟩ : ∃ X, (w.alloc (.cells #[.string t, .int .i64 0, .bool false] 239)).alloc (.cells #[.int .i64 0, .int .i64 0, .int .i64 0, .int .i64 0, .string ⟨#[]⟩, .slice none 0 0, .int .i64 0, .slice none 0 0, .int .i64 0, .slice none 0 0] 174) = X := ⟨_, rfl⟩
  have H0 : Hid (HI w w.heap.size (w.heap.size + 1) (RS.on t) ⟨0, 0, 0, 0, ⟨#[]⟩, .slice none 0 0, [], 0, .slice none 0 0, 0, pc lv 32, 0, .slice none 0 0, 0, pc (tRest t) C⟩ X0) := by
   show HI _ _ _ _ _ _
   rw [← hX0]
   refine ⟨⟨?_, Nat.zero_le _, by show t.size ≤ _; omega⟩, ?_, ⟨rfl, .inl ⟨rfl, rfl⟩⟩, ⟨rfl, .inl ⟨rfl, rfl⟩⟩, ⟨rfl, .inl ⟨rfl, rfl⟩⟩, fun j h1 => (by cases h1), ?_, Nat.le_refl _, Nat.le_succ _⟩
   ·rw [heap_alloc_old _ _ (by simp), heap_alloc_new]; rfl
   ·have := heap_alloc_new (w.alloc (.cells #[.string t, .int .i64 0, .bool false] 239)) (.cells #[.int .i64 0, .int .i64 0, .int .i64 0, .int .i64 0, .string ⟨#[]⟩, .slice none 0 0, .int .i64 0, .slice none 0 0, .int .i64 0, .slice none 0 0] 174)
    rw [show (w.alloc (.cells #[.string t, .int .i64 0, .bool false] 239)).heap.size = w.heap.size + 1 by simp] at this
    exact this
   ·exact ((Below.refl _ _).alloc (Nat.le_refl _) _).alloc (by simp) _
  rw [hX0]
  clear hX0
  refine Calls.mono (C1.out _ _ H0.out.cur) ?_
  rintro e X1 ⟨rfl, hD⟩
  have H1 : Hid _ := H0.out.go hD
  clear hD H0 C1
  go_wp2_with fail
  refine Calls.mono (C2.out _ _ H1.out.cur) ?_
  rintro e X2 ⟨rfl, hD⟩
  have H2 : Hid _ := H1.out.go hD
  clear hD H1 C2
  have ck : X2.cell? ⟨w.heap.size + 1, 4, none⟩ = some (.string ⟨#[]⟩) := cell_of_row _ _ _ _ 174 _ H2.out.row
  have fk := frozen_of_row X2 (w.heap.size + 1) 4 _ 174 H2.out.row
  have H2' : Hid _ := H2.out.set (d' := ⟨0, 0, 0, 0, root, .slice none 0 0, [], 0, .slice none 0 0, 0, pc lv 32, 0, .slice none 0 0, 0, pc (tRest t) C⟩) 4 (.string root) rfl rfl rfl rfl rfl rfl rfl rfl rfl
  go_wp2_with fail
  obtain ⟨Y2, hY⟩ : ∃ Y, X2.setCell ⟨w.heap.size + 1, 4, none⟩ (.string root) = Y := ⟨_, rfl⟩
  rw [hY] at H2' ⊢
  clear hY ck fk H2
  refine Calls.mono (C3.out _ _ H2'.out.cur) ?_
  rintro e X3 ⟨rfl, hD⟩
  have H3 : Hid _ := H2'.out.go hD
  clear hD H2' C3
  go_wp2_with fail
  refine Calls.mono (C4.out _ _ H3.out.cur) ?_
  rintro e X4 ⟨rfl, hD⟩
  have H4 : Hid _ := H3.out.go hD
  clear hD H3 C4
  have u1 : IntKind.i64.wrap (255 - (K : Int)) = 255 - (K : Int) := by have := HK.out; rw [IntKind.wrap_i64]; omega
  have ck : X4.cell? ⟨w.heap.size + 1, 0, none⟩ = some (.int .i64 0) := cell_of_row _ _ _ _ 174 _ H4.out.row
  have fk := frozen_of_row X4 (w.heap.size + 1) 0 _ 174 H4.out.row
  have H4' : Hid _ := H4.out.set (d' := ⟨K, 0, 0, 0, root, .slice none 0 0, [], 0, .slice none 0 0, 0, pc lv 32, 0, .slice none 0 0, 0, pc (tRest t) C⟩) 0 (.int .i64 K) rfl rfl rfl rfl rfl rfl rfl rfl rfl
  go_wp2_with fail
  obtain ⟨Y4, hY⟩ : ∃ Y, X4.setCell ⟨w.heap.size + 1, 0, none⟩ (.int .i64 K) = Y := ⟨_, rfl⟩
  rw [hY] at H4' ⊢
  clear hY ck fk H4
  refine Calls.mono (C5.out _ _ H4'.out.cur) ?_
  rintro e X5 ⟨rfl, hD⟩
  have H5 : Hid _ := H4'.out.go hD
  clear hD H4' C5
  have ck : X5.cell? ⟨w.heap.size + 1, 1, none⟩ = some (.int .i64 0) := cell_of_row _ _ _ _ 174 _ H5.out.row
  have fk := frozen_of_row X5 (w.heap.size + 1) 1 _ 174 H5.out.row
  have H5' : Hid _ := H5.out.set (d' := ⟨K, M, 0, 0, root, .slice none 0 0, [], 0, .slice none 0 0, 0, pc lv 32, 0, .slice none 0 0, 0, pc (tRest t) C⟩) 1 (.int .i64 M) rfl rfl rfl rfl rfl rfl rfl rfl rfl
  go_wp2_with fail
  obtain ⟨Y5, hY⟩ : ∃ Y, X5.setCell ⟨w.heap.size + 1, 1, none⟩ (.int .i64 M) = Y := ⟨_, rfl⟩
  rw [hY] at H5' ⊢
  clear hY ck fk H5
  refine Calls.mono (C6.out _ _ H5'.out.cur) ?_
  rintro e X6 ⟨rfl, hD⟩
  have H6 : Hid _ := H5'.out.go hD
  clear hD H5' C6
  have ck : X6.cell? ⟨w.heap.size + 1, 2, none⟩ = some (.int .i64 0) := cell_of_row _ _ _ _ 174 _ H6.out.row
  have fk := frozen_of_row X6 (w.heap.size + 1) 2 _ 174 H6.out.row
  have H6' : Hid _ := H6.out.set (d' := ⟨K, M, C, 0, root, .slice none 0 0, [], 0, .slice none 0 0, 0, pc lv 32, 0, .slice none 0 0, 0, pc (tRest t) C⟩) 2 (.int .i64 C) rfl rfl rfl rfl rfl rfl rfl rfl rfl
  go_wp2_with fail
  obtain ⟨Y6, hY⟩ : ∃ Y, X6.setCell ⟨w.heap.size + 1, 2, none⟩ (.int .i64 C) = Y := ⟨_, rfl⟩
  rw [hY] at H6' ⊢
  clear hY ck fk H6
  refine Calls.mono (C7.out _ _ H6'.out.cur) ?_
  rintro e X7 ⟨rfl, hD⟩
  have H7 : Hid _ := H6'.out.go hD
  clear hD H6' C7
  have ck : X7.cell? ⟨w.heap.size + 1, 3, none⟩ = some (.int .i64 0) := cell_of_row _ _ _ _ 174 _ H7.out.row
  have fk := frozen_of_row X7 (w.heap.size + 1) 3 _ 174 H7.out.row
  have H7' : Hid _ := H7.out.set (d' := ⟨K, M, C, V, root, .slice none 0 0, [], 0, .slice none 0 0, 0, pc lv 32, 0, .slice none 0 0, 0, pc (tRest t) C⟩) 3 (.int .i64 V) rfl rfl rfl rfl rfl rfl rfl rfl rfl
  go_wp2_with fail
  obtain ⟨Y7, hY⟩ : ∃ Y, X7.setCell ⟨w.heap.size + 1, 3, none⟩ (.int .i64 V) = Y := ⟨_, rfl⟩
  rw [hY] at H7' ⊢
  clear hY ck fk H7
  refine Calls.mono (C8.out _ _ H7'.out.cur) ?_
  rintro e X8 ⟨vE, es', rfl, ho, hD, hel, hes⟩
  obtain ⟨aE, cE, rfl⟩ := own_shape ho
  have H8 : Hid _ := H7'.out.go hD
  have HO8 : Hid _ := own_base ho H7'.out.bel.size
  have HES : Hid _ := hes
  clear hD hes ho H7' C8 u1
  have ck : X8.cell? ⟨w.heap.size + 1, 5, none⟩ = some (.slice none 0 0) := cell_of_row _ _ _ _ 174 _ H8.out.row
  have fk := frozen_of_row X8 (w.heap.size + 1) 5 _ 174 H8.out.row
  have H8' : Hid (HI w w.heap.size (w.heap.size + 1) s8 ⟨K, M, C, V, root, (.slice aE es'.length cE), es', 0, .slice none 0 0, 0, pc lv 32, 0, .slice none 0 0, 0, pc (tRest t) C⟩ _) := H8.out.ents _ es' HO8.out
  have g2 : X8.cell? ⟨w.heap.size, 2, none⟩ = some (.bool s8.wrong) := cell_of_row _ _ _ _ 239 _ H8.out.cur.row
  have g1 : X8.cell? ⟨w.heap.size, 1, none⟩ = some (.int .i64 (atC s8 : Nat)) := cell_of_row _ _ _ _ 239 _ H8.out.cur.row
  cases hw8 : s8.wrong with
  | true =>
   have hat : atC s8 = s8.field := by unfold atC; rw [hw8]; rfl
   rw [hat] at g1
   rw [hw8] at g2
   go_wp2_with fail
   refine Calls.mono (at_marks 7 s8.field w _ H8'.out.bel) ?_
   rintro e w1 ⟨v, rfl, ho, hB⟩
   obtain ⟨va, vc, rfl⟩ := own_shape ho
   have HO : Hid _ := ho
   have HB : Hid _ := hB
   clear ho hB
   go_wp2_with fail
   go_ret2
   exact ⟨_, _, rfl, RRd.no (HE1.out hw8) HB.out HO.out⟩
  | false =>
   have hee := (HES.out hw8).symm
   subst hee
   rw [hw8] at g2
   obtain ⟨hk1, hkm, hc1, hc64, hv1, hv16, hne, hsum, hnm⟩ := HLok.out hw8
   have HNM : Hid _ := hnm
   have hz0 : 0 < K * C := Nat.mul_pos hk1 hc1
   have hz1 : K * C ≤ 255 * 64 := Nat.mul_le_mul (by omega) hc64
   go_wp2_with fail
   obtain ⟨Y8, hY⟩ : ∃ Y, X8.setCell ⟨w.heap.size + 1, 5, none⟩ (.slice aE es.length cE) = Y := ⟨_, rfl⟩
   rw [hY] at H8' ⊢
   clear hY ck fk H8 g1 g2 HO8 HES
   have hhl : w.heap.size + 1 < Y8.heap.size := (Array.getElem?_eq_some_iff.1 H8'.out.row).1
   have HV : Hid (∀ w2 : World, Below Y8.heap.size Y8 w2 → w2.cell? ⟨w.heap.size + 1, 0, none⟩ = some (.int .i64 K) ∧ w2.cell? ⟨w.heap.size + 1, 1, none⟩ = some (.int .i64 M) ∧ w2.cell? ⟨w.heap.size + 1, 2, none⟩ = some (.int .i64 C) ∧ w2.cell? ⟨w.heap.size + 1, 3, none⟩ = some (.int .i64 V) ∧ w2.cell? ⟨w.heap.size + 1, 5, none⟩ = some (.slice aE es.length cE)) := fun X hX => by
    have h1 := (hX.block _ hhl).trans H8'.out.row
    exact ⟨cell_of_row _ _ _ _ 174 _ h1, cell_of_row _ _ _ _ 174 _ h1, cell_of_row _ _ _ _ 174 _ h1, cell_of_row _ _ _ _ 174 _ h1, cell_of_row _ _ _ _ 174 _ h1⟩
   have HC1 : Hid (∀ X : World, Below Y8.heap.size Y8 X → Calls Tryz.prog 134 #[.slice aE es.length cE] X fun e w' => e = .returned (.int .i64 (lenE es)) ∧ Below X.heap.size X w') := fun X hX => by
    refine Calls.mono (ramount w.heap.size es.length cE aE es X rfl (own_kept H8'.out.oE (fun q hq => hX.block q (own_lt H8'.out.oE q hq))) (fun i => Nat.le_trans (lenE_take_le es i) (by omega)) (by omega)) ?_
    rintro e w' ⟨rfl, rfl⟩
    exact ⟨rfl, Below.refl _ _⟩
   have HC2 : Hid (∀ X : World, Below Y8.heap.size Y8 X → Calls Tryz.prog 133 #[.agg #[.int .i64 K, .int .i64 M, .int .i64 C, .int .i64 V], .int .i64 (lenE es)] X fun e w' => e = .returned (.int .i64 cnt) ∧ Below X.heap.size X w') := fun X _ => by
    rw [← hcnt']
    exact rblocks_any K M C V (lenE es) (K * C) X rfl hz0 (by omega) (by omega) (by omega) (by omega)
   obtain ⟨v0, v1, v2, v3, v5⟩ := HV.out Y8 (Below.refl _ _)
   obtain ⟨ln, hln⟩ : ∃ x, lenE es = x := ⟨_, rfl⟩
   rw [hln] at HC1 HC2
   have HLN : Hid _ := hln
   clear hz0 hz1 hln
   go_region_held3 (fun w2 => w2.cell? ⟨w.heap.size + 1, 0, none⟩ = some (.int .i64 K) ∧ w2.cell? ⟨w.heap.size + 1, 1, none⟩ = some (.int .i64 M) ∧ w2.cell? ⟨w.heap.size + 1, 2, none⟩ = some (.int .i64 C) ∧ w2.cell? ⟨w.heap.size + 1, 3, none⟩ = some (.int .i64 V) ∧ w2.cell? ⟨w.heap.size + 1, 5, none⟩ = some (.slice aE es.length cE)) (go_keep) (first | (go_at_call 134; refine Calls.mono (HC1.out _ (by first | exact Below.refl _ _ | exact (Below.refl _ _).drew)) ?_; rintro e w7 ⟨rfl, hb7⟩; have hB7 : Below Y8.heap.size Y8 w7 := (by first | exact hb7 | exact ((Below.refl _ _).drew).trans hb7); obtain ⟨x0, x1, x2, x3, x5⟩ := HV.out w7 hB7) | (go_at_call 133; refine Calls.mono (HC2.out _ hB7) ?_; rintro e w8 ⟨rfl, hb8⟩; have hB8 : Below Y8.heap.size Y8 w8 := (hB7.trans (hb8.mono hB7.size)); obtain ⟨y0, y1, y2, y3, y5⟩ := HV.out w8 hB8))
   have H9 : Hid _ := H8'.out.low hB8
   clear v0 v1 v2 v3 v5 x0 x1 x2 x3 x5 y0 y1 y2 y5 hb7 hB7 hb8 hB8 HC1 HC2 HV hhl
   have g1 : w8.cell? ⟨w.heap.size, 1, none⟩ = some (.int .i64 (atC s8 : Nat)) := cell_of_row _ _ _ _ 239 _ H9.out.cur.row
   rw [atC_ok hw8] at g1
   by_cases hbc : 512 < cnt
   ·have hbc' : (512 : Int) < (cnt : Int) := by omega
    go_wp2_with fail
    refine Calls.mono (at_marks 7 s8.next w _ H9.out.bel) ?_
    rintro e w1 ⟨v, rfl, ho, hB⟩
    obtain ⟨va, vc, rfl⟩ := own_shape ho
    have HO : Hid _ := ho
    have HB : Hid _ := hB
    clear ho hB
    go_wp2_with fail
    go_ret2
    exact ⟨_, _, rfl, RRd.no (HE2.out hw8 hbc) HB.out HO.out⟩
   ·have hbc' : ¬ (512 : Int) < (cnt : Int) := by omega
    have u1 : IntKind.i64.wrap ((V : Int) - 1) = (V : Int) - 1 := by rw [IntKind.wrap_i64]; omega
    have u2 : IntKind.i64.wrap (32 * (cnt : Int)) = ((cnt * 32 : Nat) : Int) := by rw [IntKind.wrap_i64]; omega
    clear g1
    go_wp2_with fail
    refine Calls.mono (C9.out _ _ H9.out.cur) ?_
    rintro e X9 ⟨rfl, hD⟩
    have H10 : Hid _ := H9.out.go hD
    clear hD H9 y3 u1
    have ck : X9.cell? ⟨w.heap.size + 1, 6, none⟩ = some (.int .i64 0) := cell_of_row _ _ _ _ 174 _ H10.out.row
    have fk := frozen_of_row X9 (w.heap.size + 1) 6 _ 174 H10.out.row
    have g1 : X9.cell? ⟨w.heap.size, 1, none⟩ = some (.int .i64 (atC s9 : Nat)) := cell_of_row _ _ _ _ 239 _ H10.out.cur.row
    have H10' : Hid _ := H10.out.set (d' := ⟨K, M, C, V, root, (.slice aE es.length cE), es, num, .slice none 0 0, 0, pc lv 32, 0, .slice none 0 0, 0, pc (tRest t) C⟩) 6 (.int .i64 num) rfl rfl rfl rfl rfl rfl rfl rfl rfl
    obtain ⟨pl, hpl⟩ : ∃ x, atC s9 = x := ⟨_, rfl⟩
    rw [hpl] at g1
    have HPL : Hid _ := hpl
    have HNT9 : Hid (s9.next ≤ s9.text.size) := H10.out.cur.nt
    clear hpl
    obtain ⟨c32, hc32⟩ : ∃ x, cnt * 32 = x := ⟨_, rfl⟩
    rw [hc32] at u2 C10
    have HC32 : Hid _ := hc32
    clear hc32
    go_wp2_with fail
    obtain ⟨Y9, hY⟩ : ∃ Y, X9.setCell ⟨w.heap.size + 1, 6, none⟩ (.int .i64 num) = Y := ⟨_, rfl⟩
    rw [hY] at H10' ⊢
    clear hY ck fk H10 g1
    refine Calls.mono (C10.out _ _ H10'.out.cur (by omega)) ?_
    rintro e X10 ⟨rfl, hD⟩
    have H11 : Hid _ := H10'.out.go hD
    clear hD H10'
    have g2 : X10.cell? ⟨w.heap.size, 2, none⟩ = some (.bool s10.wrong) := cell_of_row _ _ _ _ 239 _ H11.out.cur.row
    have g1 : X10.cell? ⟨w.heap.size, 1, none⟩ = some (.int .i64 (atC s10 : Nat)) := cell_of_row _ _ _ _ 239 _ H11.out.cur.row
    cases hw10 : s10.wrong with
    | true =>
     have hat : atC s10 = s10.field := by unfold atC; rw [hw10]; rfl
     rw [hat] at g1
     rw [hw10] at g2
     go_wp2_with fail
     refine Calls.mono (at_marks 7 s10.field w _ H11.out.bel) ?_
     rintro e w1 ⟨v, rfl, ho, hB⟩
     obtain ⟨va, vc, rfl⟩ := own_shape ho
     have HO : Hid _ := ho
     have HB : Hid _ := hB
     clear ho hB
     go_wp2_with fail
     go_ret2
     exact ⟨_, _, rfl, RRd.no (HE3.out (by omega) hw10) HB.out HO.out⟩
    | false =>
     rw [hw10] at g2
     obtain ⟨hlz, htx, hlx, hle, htx9⟩ := HLV.out hw10
     obtain ⟨hw9, hT1, hT2, hT3, hT4, hT5⟩ := HE4.out (by omega) hw10
     clear g1
     have HT : Hid _ := And.intro hT1 (And.intro hT2 (And.intro hT3 (And.intro hT4 hT5)))
     have hp9 : pl = s9.next := by rw [← HPL.out, atC_ok hw9]
     have hc32 := HC32.out
     have hnt9 : s9.next ≤ t.size := by have h1 := HNT9.out; rw [htx9] at h1; exact h1
     have hpz : pl + c32 ≤ t.size := by omega
     have hlvz : (lv.size : Int) = (c32 : Int) := by omega
     have HPC : Hid (∀ i, i < cnt → t.extract (pl + 32 * i) (pl + 32 * i + 32) = pc lv 32 i) := fun i hi => by
      rw [pc, hlx, ← hp9, ByteArray.extract_extract, Nat.succ_mul]
      congr 1 <;> omega
     clear hT1 hT2 hT3 hT4 hT5 hlx hle hp9
     go_wp2_with fail
     go_loopw [9] (fun iv wr => ∃ (i : Nat) (vL : Value), i ≤ cnt ∧ iv = .int .i64 i ∧ HI w w.heap.size (w.heap.size + 1) s10 ⟨K, M, C, V, root, (.slice aE es.length cE), es, num, vL, i, pc lv 32, 0, .slice none 0 0, 0, pc (tRest t) C⟩ wr) (fun iv _ => cnt - (intOf iv).toNat)
     case atStart => exact ⟨0, _, Nat.zero_le _, rfl, H11.out⟩
     case round =>
      obtain ⟨i, vL, hi, rfl, hI⟩ := hrel
      have HIJ : Hid _ := hI
      have hol := hI.oL
      simp only [] at hol
      obtain ⟨aL, cL, hvL⟩ := own_shape hol
      subst hvL
      clear hI hol g2
      by_cases hlt : i < cnt
      ·have hlt' : (i : Int) < (cnt : Int) := by omega
       have u3 : IntKind.i64.wrap (32 * (i : Int)) = ((32 * i : Nat) : Int) := by rw [IntKind.wrap_i64]; omega
       obtain ⟨Z, hZ⟩ : ∃ Z, 32 * i = Z := ⟨_, rfl⟩
       rw [hZ] at u3
       obtain ⟨P, hP⟩ : ∃ P, pl + Z = P := ⟨_, rfl⟩
       have e0 : 32 * (i : Int) = (Z : Int) := by omega
       have u4 : IntKind.i64.wrap ((pl : Int) + (Z : Int)) = (P : Int) := by rw [IntKind.wrap_i64]; omega
       have e1 : (pl : Int) + (Z : Int) = (P : Int) := by omega
       obtain ⟨Q, hQ⟩ : ∃ Q, P + 32 = Q := ⟨_, rfl⟩
       have u5 : IntKind.i64.wrap ((P : Int) + 32) = (Q : Int) := by rw [IntKind.wrap_i64]; omega
       have e2 : (P : Int) + 32 = (Q : Int) := by omega
       have uZ : IntKind.i64.wrap (Z : Int) = (Z : Int) := by rw [IntKind.wrap_i64]; omega
       have uP : IntKind.i64.wrap (P : Int) = (P : Int) := by rw [IntKind.wrap_i64]; omega
       have uQ : IntKind.i64.wrap (Q : Int) = (Q : Int) := by rw [IntKind.wrap_i64]; omega
       have k1 : (0 : Int) ≤ (P : Int) := by omega
       have k2 : (P : Int) ≤ (Q : Int) := by omega
       have k3 : (Q : Int) ≤ (t.size : Int) := by omega
       have hx : t.extract P Q = pc lv 32 i := by have := HPC.out i hlt; rw [hZ, hP, hQ] at this; exact this
       have a7 : wr.cell? ⟨w.heap.size + 1, 7, none⟩ = some (.slice aL i cL) := cell_of_row _ _ _ _ 174 _ HIJ.out.row
       obtain ⟨v', w2, hrun, hI2, hr2⟩ := HIJ.out.drew.leaf (t.extract P Q) (by show i ≤ _; omega) hx.symm
       have hol := hI2.oL
       simp only [] at hol
       obtain ⟨aL', cL', hvL'⟩ := own_shape hol
       subst hvL'
       have HRUN : Hid ((Builtin.append_ #[42, 42] 42 #[.slice aL i cL, .slice (some ⟨wr.heap.size, 0, none⟩) 1 1]).run Tryz.prog (wr.alloc (.cells #[.string (t.extract P Q)] 9)).drew = .ok (.slice aL' (i + 1) cL') w2) := hrun
       have HI2 : Hid _ := hI2
       have x7' : w2.cell? ⟨w.heap.size + 1, 7, none⟩ = some (.slice aL i cL) := cell_of_row _ _ _ _ 174 _ hr2
       have f7' := frozen_of_row w2 (w.heap.size + 1) 7 _ 174 hr2
       have hcl : w.heap.size + 1 < wr.heap.size := (Array.getElem?_eq_some_iff.1 HIJ.out.row).1
       clear hrun hI2 hr2 hol hx hZ hP hQ
       go_wp2_with fail
       go_region_law (refine step_app rfl (.tmp 128) (.tmp 140) 42 rfl _ _ _ (by simp [Act.eval]) (by simp [Act.eval]) _ HRUN.out ?_)
       all_goals
        go_wp2_with fail
        go_roundw
        case rel => exact ⟨i + 1, _, by omega, by go_num, HI2.out⟩
        case measure => simp [intOf]; omega
      ·have hlt' : ¬ (i : Int) < (cnt : Int) := by omega
       obtain rfl : i = cnt := by omega
       obtain ⟨hT1, hT2, hT3, hT4, hT5⟩ := HT.out
       obtain ⟨s11, hs11⟩ : ∃ x, (tCk t).1 = x := ⟨_, rfl⟩
       obtain ⟨ck, hck⟩ : ∃ x, (tCk t).2 = x := ⟨_, rfl⟩
       have hk : s10.bytes 32 = (s11, ck) := by rw [← hT1, ← hs11, ← hck]; rfl
       have hT1' : (RS.on t).told.st.wrong = false := by rw [hT1]; exact hw10
       have hlst : (RS.on t).told.lst = lstT K M C V es.length (nmE es) (lnE es) := by
        have h1 := (told_dec hT1').2.1
        rw [hT3] at h1
        apply ByteArray.ext
        apply Array.toList_inj.1
        rw [h1, lstT_list]
       have hTO := told_ok hT1'
       have hR : rdE kt t = if s11.wrong then some (7, s10.next) else if ck = ofT kt (⟨#[3]⟩ ++ s10.text.extract 0 s10.next) then (if root = ofT kt (⟨#[2]⟩ ++ lstT K M C V es.length (nmE es) (lnE es) ++ topT (ofT kt) i (pc lv 32)) then (if ((num + 1) * i / V - num * i / V) * C < (tRest t).size then some (7, s11.next + ((num + 1) * i / V - num * i / V) * C) else none) else some (9, 4)) else some (8, s10.next) := by
        unfold rdE
        rw [if_neg hbig, hs11, hck]
        have hfl : s11.wrong = true → s11.field = s10.next := fun h => by
         have e : (s10.bytes 32).1 = s11 := by rw [hk]
         rw [← e] at h ⊢
         unfold RS.bytes at h ⊢
         rw [hw10] at h ⊢
         simp only [Bool.false_eq_true, if_false] at h ⊢
         split
         ·rfl
         ·rfl
        have hcn : (RS.on t).told.L.cnt = i := by rw [hT3]; exact hcnt'
        unfold tTold TT.size TT.first rootT
        rw [hT1, hT2, hT4, hT5, hcn, hlst, hT3, htx]
        by_cases h11 : s11.wrong = true
        ·rw [if_pos h11, if_pos h11, hfl h11]
        ·rw [if_neg h11, if_neg h11]
       have hnV : num < V := by have := hTO.num; rw [hT4, hT3] at this; exact this
       have hcn : (RS.on t).told.L.cnt = i := by rw [hT3]; exact hcnt'
       have hsm : lenE es ≤ 4096 := by first | exact hsum | (rw [HLN.out]; exact hsum)
       have HCR : Hid _ := crest kt w w.heap.size (w.heap.size + 1) i (num * i / V) ((num + 1) * i / V) s10 s11 ck _ _ (tRest t) _ wr (rdE kt t) HIJ.out HG.out hw10 hk rfl rfl (by rw [htx]; unfold tRest; rw [hs11]) rfl (fun _ => rfl) rfl rfl hR hkm hc1 hc64 hv1 hv16 hnV (by omega) hne (nmE_le HNM.out) (lnE_le hsm) (fun j _ => pc_le lv 32 j) (by rw [htx]; omega)
       have HRH : Hid (∀ vB, rhT t (.slice aE es.length cE) (.slice aL i cL) vB = ⟨K, M, C, V, root, .slice aE es.length cE, es, num, .slice aL i cL, i, pc lv 32, num * i / V, vB, (tRest t).size / C, pc (tRest t) C⟩) := fun vB => by
        unfold rhT TT.first
        rw [hcn, hT2, hT4, hT5, hT3]
       clear hR hT1 hT2 hT3 hT4 hT5 hs11 hck hk hT1' hlst hTO hcn
       go_wp2_with fail
       refine Calls.mono HCR.out ?_
       rintro e w9 ⟨v, rfl, hC⟩
       have HC : Hid _ := hC
       clear hC
       go_wp2_with fail
       go_ret2
       refine ⟨_, _, rfl, HC.out.bel, HC.out.bad, fun hn => ?_⟩
       obtain ⟨h1, vB, st', h2⟩ := HC.out.good hn
       exact ⟨h1, _, _, _, _, vB, st', rfl, by rw [HRH.out]; exact h2⟩
end Go.Proofs.YtadinjaocnlglaaGreatDoor
