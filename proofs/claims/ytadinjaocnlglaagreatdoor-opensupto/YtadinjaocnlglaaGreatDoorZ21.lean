/-
  The document's Cursor: number.
  The document's Cursor: entries.
-/
import Derived.Test.YtadinjaocnlglaaGreatDoorZ20
import Derived.Test.YtadinjaocnlglaaGreatDoorZ09
import Derived.Test.YtadinjaocnlglaaGreatDoorZ19
namespace Go.Proofs.YtadinjaocnlglaaGreatDoor
open Go.RowKit
set_option maxRecDepth 100000
set_option maxHeartbeats 4000000
theorem vb_lenA : ∀ (j f q : Nat), j ≤ f → q < 128 ^ (j + 1) → (0 < j → 128 ^ j ≤ q) → (vb f q).length = j + 1
 | 0, f, q, _, h, _ => by rw [vb_small f q (by simpa using h)]; rfl
 | j + 1, f, q, hf, h, h0 => by
  obtain ⟨f', rfl⟩ : ∃ f', f = f' + 1 := ⟨f - 1, by omega⟩
  have h1 := h0 (by omega)
  have hp : 128 ^ (j + 1) = 128 * 128 ^ j := by rw [Nat.pow_succ, Nat.mul_comm]
  have hp2 : 128 ^ (j + 1 + 1) = 128 * 128 ^ (j + 1) := by rw [Nat.pow_succ, Nat.mul_comm]
  have hpos : 0 < 128 ^ j := Nat.pow_pos (by omega)
  rw [vb, if_neg (by omega), List.length_cons, vb_lenA j f' (q / 128) (by omega) (by omega) (fun _ => by omega)]
theorem vb_lenB : ∀ (j f q : Nat), 1 ≤ j → j ≤ f → q < 128 ^ j → (vb f q).length ≤ j
 | 0, _, _, h, _, _ => by omega
 | j + 1, f, q, _, hf, h => by
  obtain ⟨f', rfl⟩ : ∃ f', f = f' + 1 := ⟨f - 1, by omega⟩
  have hp : 128 ^ (j + 1) = 128 * 128 ^ j := by rw [Nat.pow_succ, Nat.mul_comm]
  rw [vb]
  split
  ·simp
  ·rename_i hq
   cases j with
   | zero => exact absurd (by simpa using h) hq
   | succ j =>
    rw [List.length_cons]
    have := vb_lenB (j + 1) f' (q / 128) (by omega) (by omega) (by omega)
    omega
theorem digit_len {sum b j : Nat} (hs : sum < 128 ^ j) (hb : b < 128) (hj : j ≤ 4) : (vint (sum + b * 128 ^ j)).size = j + 1 ↔ ¬ (b = 0 ∧ 0 < j) := by
 have e : (vint (sum + b * 128 ^ j)).size = (vb 4 (sum + b * 128 ^ j)).length := by
  unfold vint
  rw [strOfNums_size, List.length_map]
 rw [e]
 have hp2 : 128 ^ (j + 1) = 128 * 128 ^ j := by rw [Nat.pow_succ, Nat.mul_comm]
 have hm : (b + 1) * 128 ^ j ≤ 128 * 128 ^ j := Nat.mul_le_mul_right _ hb
 rw [Nat.add_mul, Nat.one_mul] at hm
 constructor
 ·rintro h ⟨rfl, h0⟩
  have := vb_lenB j 4 (sum + 0 * 128 ^ j) (by omega) (by omega) (by omega)
  omega
 ·intro h
  apply vb_lenA j 4 _ hj (by omega)
  intro h0
  have h1 : 1 ≤ b := by omega
  have := Nat.mul_le_mul_right (128 ^ j) h1
  omega
theorem CR.g0 {c field next : Nat} {text : ByteArray} {b : Bool} {W : World} (h : CR c ⟨text, field, next, b⟩ W) : W.cell? ⟨c, 0, none⟩ = some (.string text) := cell_of_row _ _ _ _ 239 _ h.row
theorem CR.g1 {c field next : Nat} {text : ByteArray} {W : World} (h : CR c ⟨text, field, next, false⟩ W) : W.cell? ⟨c, 1, none⟩ = some (.int .i64 next) := cell_of_row _ _ _ _ 239 _ h.row
theorem CR.g2 {c field next : Nat} {text : ByteArray} {b : Bool} {W : World} (h : CR c ⟨text, field, next, b⟩ W) : W.cell? ⟨c, 2, none⟩ = some (.bool b) := cell_of_row _ _ _ _ 239 _ h.row
theorem CR.fz {c k : Nat} {s : RS} {W : World} (h : CR c s W) : W.frozen? ⟨c, k, none⟩ = false := frozen_of_row _ _ _ _ 239 h.row
theorem CR.bad {c : Nat} {text : ByteArray} {field next : Nat} {w W : World} (h : CR c ⟨text, field, next, false⟩ W) (hf : Fr (fun j => j = c) w W) : CDid c ⟨text, next, next, true⟩ w (W.setCell ⟨c, 2, none⟩ (.bool true)) :=
 ⟨⟨set_heap _ _ 2 _ _ _ _ h.row, h.nt, h.small⟩, hf.set (.inl rfl) _ _⟩
theorem cnum (c : Nat) (s : RS) (lo : Nat) (hi : Int) (w : World) (h : CR c s w) (hh : hi ≤ 4294967295) :
  Calls Tryz.prog 131 #[.pointer (some ⟨c, 0, none⟩), .int .i64 lo, .int .i64 hi] w fun e w' => e = .returned (.int .i64 (s.num lo hi).2) ∧ CDid c (s.num lo hi).1 w w' := by
 have HH : Hid (CR c s w) := h
 have hnt := h.nt
 have hsm := h.small
 have c2 : w.cell? ⟨c, 2, none⟩ = some (.bool s.wrong) := cell_of_row _ _ _ _ 239 _ h.row
 clear h
 obtain ⟨text, field, next, wrong⟩ := s
 cases wrong
 ·have hnt' : next ≤ text.size := hnt
  have hsm' : text.size ≤ 1000000000 := hsm
  clear hnt hsm
  have c1 := HH.out.g1
  obtain ⟨t, ht⟩ : ∃ t, text.extract next text.size = t := ⟨_, rfl⟩
  have hts : t.size = text.size - next := by rw [← ht, ByteArray.size_extract]; omega
  have HN : Hid (RS.num ⟨text, field, next, false⟩ lo hi = if (vrd t).2 = 0 ∨ (vrd t).1 < lo ∨ hi < ((vrd t).1 : Int) then (⟨text, next, next, true⟩, 0) else (⟨text, next, next + (vrd t).2, false⟩, (vrd t).1)) := by
   show _ = _
   unfold RS.num
   simp only [Bool.false_eq_true, if_false]
   rw [ht]
  have HG : Hid (∀ j (h1 : j < t.size) (h2 : next + j < text.size), t[j] = text[next + j]) := by
   intro j h1 h2
   subst ht
   simp [ByteArray.getElem_extract]
  have HT : Hid _ := hts
  clear ht hts
  go_enter Tryz.func131, Tryz.ntmps131
  go_wp2_with fail
  clear c1 c2
  go_loopw [7, 8, 9, 10, 11] (fun nv uv iv _ _ wr => ∃ j sum : Nat, j ≤ 5 ∧ next + j ≤ text.size ∧ nv = .int .i64 sum ∧ uv = .int .i64 (128 ^ j : Nat) ∧ iv = .int .i64 (next + j : Nat) ∧ sum < 128 ^ j ∧ vrF t j sum (5 - j) = vrd t ∧ Below w.heap.size w wr) (fun _ _ iv _ _ _ => next + 5 - (intOf iv).toNat)
  case atStart => exact ⟨0, 0, by omega, by omega, rfl, rfl, rfl, by decide, rfl, Below.refl _ _⟩
  case round =>
   obtain ⟨j, sum, hj, hjt, rfl, rfl, rfl, hs, hv, hb⟩ := hrel
   have hC := HH.out.below hb
   have g0 := hC.g0
   have g1 := hC.g1
   have HC : Hid (CR c ⟨text, field, next, false⟩ wr) := hC
   have HB : Hid (Below w.heap.size w wr) := hb
   clear hC hb
   have g2 := HC.out.g2
   have f1 := HC.out.fz (k := 1)
   have f2 := HC.out.fz (k := 2)
   by_cases hlt : j < 5 ∧ next + j < text.size
   ·obtain ⟨hj5, hjt2⟩ := hlt
    have hjl : j < t.size := by rw [HT.out]; omega
    obtain ⟨b, hb⟩ : ∃ b : Nat, text[next + j].toNat = b := ⟨_, rfl⟩
    have hb2 : b < 256 := by rw [← hb]; exact text[next + j].toNat_lt
    have hk : 5 - j = (5 - (j + 1)) + 1 := by omega
    rw [hk, vrF, dif_pos hjl, HG.out j hjl hjt2, hb] at hv
    have hss := vsum sum b j hs
    have hp5 := pow5 (j + 1) (by omega)
    have hp4 := pow5 j (by omega)
    have HD : Hid (b < 128 → ((vint (sum + b % 128 * 128 ^ j)).size = j + 1 ↔ ¬ (b = 0 ∧ 0 < j))) := by
     intro h1
     rw [Nat.mod_eq_of_lt h1]
     exact digit_len hs h1 (by omega)
    obtain ⟨q, hq⟩ : ∃ q, sum + b % 128 * 128 ^ j = q := ⟨_, rfl⟩
    rw [hq] at hss hv HD
    obtain ⟨P, hP⟩ : ∃ P : Nat, 128 ^ j = P := ⟨_, rfl⟩
    have hP1 : 128 ^ (j + 1) = P * 128 := by rw [Nat.pow_succ, hP]
    rw [hP] at hq hs hp4 ⊢
    have HQ : Hid ((128 ^ (j + 1) : Nat) = P * 128) := hP1
    rw [hP1] at hss hp5
    obtain ⟨m, hm⟩ : ∃ m, next + j = m := ⟨_, rfl⟩
    have HM : Hid (next + j = m) := hm
    have k1 : ((m : Nat) : Int) < (text.size : Int) := by omega
    have k0 : (0 : Int) ≤ ((m : Nat) : Int) := by omega
    have k2 : ((m : Nat) : Int) < (next : Int) + 5 := by omega
    have u1 : IntKind.i64.wrap ((next : Int) + 5) = (next : Int) + 5 := by rw [IntKind.wrap_i64]; omega
    have hml : b % 128 * P ≤ 34359738368 := by omega
    obtain ⟨r, hr⟩ : ∃ r, b % 128 * P = r := ⟨_, rfl⟩
    have e2 : (b : Int) % 128 * (P : Int) = (r : Int) := by rw [← hr]; simp
    rw [hr] at hq hml
    have e3 : (sum : Int) + (r : Int) = (q : Int) := by omega
    have hmt : m < text.size := by omega
    have hbm : text[m].toNat = b := by subst hm; exact hb
    have HV : Hid _ := hv
    have HS : Hid _ := hss
    have HP5 : Hid _ := hp5
    have u2 : IntKind.i64.wrap (r : Int) = (r : Int) := by rw [IntKind.wrap_i64]; omega
    have u3 : IntKind.i64.wrap (q : Int) = (q : Int) := by rw [IntKind.wrap_i64]; omega
    have u4 : IntKind.i64.wrap ((P : Int) * 128) = (P : Int) * 128 := by rw [IntKind.wrap_i64]; omega
    rw [hm] at hjt ⊢
    by_cases hp : 128 ≤ b
    ·have hp' : ¬ ((b : Int) < 128) := by omega
     clear hv hss hp5 hk hr hq hP hP1 hb hm hjl hjt2 hs
     go_wp2_with fail
     go_roundw
     case rel =>
      have hM := HM.out
      exact ⟨j + 1, q, by omega, by omega, rfl, by rw [HQ.out]; simp, by rw [show next + (j + 1) = m + 1 by omega]; go_num, by rw [HQ.out]; exact HS.out, by have := HV.out; rw [if_pos hp] at this; exact this, HB.out⟩
     case measure => simp [intOf]; omega
    ·have hp' : (b : Int) < 128 := by omega
     have HRV : Hid (∀ W, Calls Tryz.prog 136 #[.int .i64 q] W fun e w' => e = .returned (.string (vint q)) ∧ Below W.heap.size W w') := fun W => rvint_at 4 q W (Nat.le_refl _) (by omega)
     have hvs := vint_size q
     have hdl := HD.out (by omega)
     have hv2 := hv
     rw [if_neg hp] at hv2
     have hM := hm
     by_cases hgood : lo ≤ q ∧ (q : Int) ≤ hi ∧ (vint q).size = j + 1
     ·have hr0 : vrd t = (q, j + 1) := by rw [← hv2, if_neg (by rintro (h | h); omega; exact hdl.1 hgood.2.2 h)]
      have HE : Hid (RS.num ⟨text, field, next, false⟩ lo hi = (⟨text, next, m + 1, false⟩, q)) := by
       show _ = _
       rw [HN.out, hr0, if_neg (by show ¬ (j + 1 = 0 ∨ q < lo ∨ hi < (q : Int)); omega), show m + 1 = next + (j + 1) by omega]
      obtain ⟨i1, i2, i3⟩ := hgood
      have x1 : (q : Int) ≥ (lo : Int) := by omega
      have HMS : Hid (m + 1 ≤ text.size) := by show _ ≤ _; omega
      have x4 : ((((vint q).size : Nat) : Int) == ((m : Nat) : Int) + 1 - (next : Int)) = true := by rw [beq_iff_eq]; omega
      obtain ⟨vq, hvq⟩ : ∃ vq, vint q = vq := ⟨_, rfl⟩
      rw [hvq] at HRV hvs x4
      clear hv hss hp5 hk hr hq hP hP1 hb hm hjl hjt2 hs hdl hv2 hM HD hr0 i1 i3 hvq
      go_wp2_with fail
      go_at_call 136
      refine (HRV.out _).mono ?_
      rintro e w2 ⟨rfl, hb2⟩
      have hb3 := HB.out.trans (hb2.mono HB.out.size)
      have HC2 : Hid _ := HC.out.below hb2
      have HB2 : Hid (Below w.heap.size w w2) := hb3
      clear g0 g1 g2 f1 f2 hb2 hb3
      have g0 := HC2.out.g0
      have g1 := HC2.out.g1
      have g2 := HC2.out.g2
      have f1 := HC2.out.fz (k := 1)
      go_wp2_with fail
      go_ret
      rw [HE.out]
      exact ⟨rfl, ⟨set_heap _ _ 1 _ _ _ _ HC2.out.row, HMS.out, hsm'⟩, (Fr.below (S := fun j => j = c) HB2.out).set (.inl rfl) _ _⟩
     ·have HE : Hid (RS.num ⟨text, field, next, false⟩ lo hi = (⟨text, next, next, true⟩, 0)) := by
       show _ = _
       rw [HN.out, ← hv2]
       split
       ·rfl
       ·rename_i hn
        rw [if_pos]
        show j + 1 = 0 ∨ q < lo ∨ hi < (q : Int)
        have hn2 : (vint q).size = j + 1 := hdl.2 (fun h => hn (.inr h))
        rcases Nat.lt_or_ge q lo with h | h
        ·exact .inr (.inl h)
        ·rcases Int.lt_or_le hi (q : Int) with h2 | h2
         ·exact .inr (.inr h2)
         ·exact absurd ⟨h, h2, hn2⟩ hgood
      obtain ⟨vq, hvq⟩ : ∃ vq, vint q = vq := ⟨_, rfl⟩
      rw [hvq] at HRV hvs hgood
      have hcase : ¬ ((q : Int) ≥ (lo : Int)) ∨ ((q : Int) ≥ (lo : Int) ∧ ¬ ((q : Int) ≤ hi)) ∨ ((q : Int) ≥ (lo : Int) ∧ (q : Int) ≤ hi ∧ (((vq.size : Nat) : Int) == ((m : Nat) : Int) + 1 - (next : Int)) = false) := by
       by_cases h1 : lo ≤ q
       ·by_cases h2 : (q : Int) ≤ hi
        ·refine .inr (.inr ⟨by omega, h2, ?_⟩)
         rw [beq_eq_false_iff_ne]
         intro h3
         exact hgood ⟨h1, h2, by omega⟩
        ·exact .inr (.inl ⟨by omega, h2⟩)
       ·exact .inl (by omega)
      clear hv hss hp5 hk hr hq hP hP1 hb hm hjl hjt2 hs hdl hv2 hM HD hgood hvq
      go_wp2_with fail
      go_at_call 136
      refine (HRV.out _).mono ?_
      rintro e w2 ⟨rfl, hb2⟩
      have hb3 := HB.out.trans (hb2.mono HB.out.size)
      have HC2 : Hid _ := HC.out.below hb2
      have HB2 : Hid (Below w.heap.size w w2) := hb3
      clear g0 g1 g2 f1 f2 hb2 hb3
      have g0 := HC2.out.g0
      have g1 := HC2.out.g1
      have g2 := HC2.out.g2
      have f1 := HC2.out.fz (k := 1)
      have f2 := HC2.out.fz (k := 2)
      rcases hcase with x1 | ⟨x1, x2⟩ | ⟨x1, x2, x3⟩
      all_goals
       go_wp2_with fail
       go_ret
       rw [HE.out]
       exact ⟨rfl, HC2.out.bad (Fr.below HB2.out)⟩
   ·have HR : Hid (vrd t = (0, 0)) := by
     show _ = _
     rw [← hv]
     by_cases e5 : j = 5
     ·subst e5; rfl
     ·have hk : 5 - j = (5 - (j + 1)) + 1 := by omega
      rw [hk, vrF, dif_neg (by rw [HT.out]; omega)]
    have HE : Hid (RS.num ⟨text, field, next, false⟩ lo hi = (⟨text, next, next, true⟩, 0)) := by
     show _ = _
     rw [HN.out, HR.out]
     simp
    clear hv
    by_cases hjt2 : next + j < text.size
    ·have k1 : ((next + j : Nat) : Int) < (text.size : Int) := by omega
     have k2 : ¬ ((next + j : Nat) : Int) < (next : Int) + 5 := by omega
     have u1 : IntKind.i64.wrap ((next : Int) + 5) = (next : Int) + 5 := by rw [IntKind.wrap_i64]; omega
     obtain ⟨m, hm⟩ : ∃ m, next + j = m := ⟨_, rfl⟩
     rw [hm] at k1 k2 ⊢
     clear hm hlt hjt2 hjt hs HN HT HG HR
     go_wp2_with fail
     go_ret
     rw [HE.out]
     exact ⟨rfl, HC.out.bad (Fr.below HB.out)⟩
    ·have k1 : ¬ ((next + j : Nat) : Int) < (text.size : Int) := by omega
     obtain ⟨m, hm⟩ : ∃ m, next + j = m := ⟨_, rfl⟩
     rw [hm] at k1 ⊢
     clear hm hlt hjt2 hjt hs HN HT HG HR
     go_wp2_with fail
     go_ret
     rw [HE.out]
     exact ⟨rfl, HC.out.bad (Fr.below HB.out)⟩
 ·have HE : Hid (RS.num ⟨text, field, next, true⟩ lo hi = (⟨text, field, next, true⟩, 0)) := rfl
  go_enter Tryz.func131, Tryz.ntmps131
  go_wp2_with fail
  go_ret
  rw [HE.out]
  exact ⟨rfl, ⟨HH.out.row, HH.out.nt, HH.out.small⟩, Fr.refl _ _⟩
theorem entry_wrong {s : RS} (h : s.wrong = true) (nm : ByteArray) (l : Int) : (s.entry nm l).1 = s := by
 obtain ⟨text, field, next, wrong⟩ := s
 cases h
 unfold RS.entry RS.num RS.bytes RS.refuse
 simp
theorem ents_wrong : ∀ (k : Nat) (s : RS) (nm : ByteArray) (l : Int) (acc : List (ByteArray × Nat)), s.wrong = true → (RS.ents k s nm l acc).1 = s
 | 0, _, _, _, _, _ => rfl
 | k + 1, s, nm, l, acc, h => by rw [RS.ents, ents_wrong k _ _ _ _ (by rw [entry_wrong h]; exact h), entry_wrong h]
theorem atC_ok {s : RS} (h : s.wrong = false) : atC s = s.next := by unfold atC; rw [h]; rfl
theorem bytes_field {s : RS} {n : Nat} (h : (s.bytes n).1.wrong = false) : (s.bytes n).1.field = s.next := by
 have hw := bytes_ok h
 unfold RS.bytes at h ⊢
 rw [hw] at h ⊢
 simp only [Bool.false_eq_true, if_false] at h ⊢
 split at h
 ·cases h
 ·rename_i hn
  rw [if_neg hn]
theorem refuse_wrong {s : RS} (h : s.wrong = true) : s.refuse = s := by
 obtain ⟨text, field, next, wrong⟩ := s
 cases h
 rfl
theorem leT_nil {a : ByteArray} (h : 0 < a.size) : leT a ⟨#[]⟩ = false := by
 unfold leT
 have hl : 0 < a.toList.length := by rw [ByteArray.toList_eq, Array.length_toList]; exact h
 have e : (⟨#[]⟩ : ByteArray).toList = [] := by rw [ByteArray.toList_eq]
 rw [e]
 cases ha : a.toList with
 | nil => rw [ha] at hl; simp at hl
 | cons x l => simp [Op.bytesLess]
def CEnts (s : RS) : RS × List (ByteArray × Nat) := RS.ents (s.num 0 16).2 (s.num 0 16).1 ⟨#[]⟩ 4096 []
theorem centries (c : Nat) (s : RS) (w : World) (h : CR c s w) :
  Calls Tryz.prog 132 #[.pointer (some ⟨c, 0, none⟩)] w fun e w' => ∃ v es, e = .returned v ∧ w'.ownsRow w.heap.size 70 2 v es.length (enV es) ∧ CDid c (CEnts s).1 w w' ∧ es.length ≤ 16 ∧ ((CEnts s).1.wrong = false → es = (CEnts s).2) := by
 obtain ⟨s5, hs5⟩ : ∃ x, (s.num 0 16).1 = x := ⟨_, rfl⟩
 obtain ⟨n, hn⟩ : ∃ x, (s.num 0 16).2 = x := ⟨_, rfl⟩
 obtain ⟨T, hT⟩ : ∃ T, RS.ents n s5 ⟨#[]⟩ 4096 [] = T := ⟨_, rfl⟩
 have e : CEnts s = T := by unfold CEnts; rw [hs5, hn, hT]
 rw [e]
 have hn2 : n ≤ 16 := by rw [← hn]; exact num_hi s 0 16
 have H0 : Hid (Calls Tryz.prog 131 #[.pointer (some ⟨c, 0, none⟩), .int .i64 0, .int .i64 16] w fun e w' => e = .returned (.int .i64 n) ∧ CDid c s5 w w') := by
  have := cnum c s 0 16 w h (by decide)
  rw [hs5, hn] at this
  exact this
 have HT : Hid _ := hT
 have hcl : c < w.heap.size := (Array.getElem?_eq_some_iff.1 h.row).1
 obtain ⟨i0, hi0, z0, z1, z2⟩ := info_parts info103
 clear h hs5 hn hT e
 go_enter Tryz.func132, Tryz.ntmps132
 go_wp2_with fail
 refine Calls.mono H0.out ?_
 rintro e w0 ⟨rfl, hD⟩
 have HD0 : Hid _ := hD
 clear hD
 go_wp2_with fail
 go_loopw [4, 5, 6, 7, 8, 9, 10] (fun ov av iv _ _ _ _ wr => ∃ (i : Nat) (oo : Value) (st : RS) (nm : ByteArray) (all : Nat) (acc : List (ByteArray × Nat)), i ≤ n ∧ oo = ov ∧ av = .int .i64 all ∧ iv = .int .i64 i ∧ all ≤ 4096 ∧ acc.length = i ∧ RS.ents (n - i) st nm (4096 - (all : Int)) acc = T ∧ (∀ j, j + 1 = i → acc[j]?.map Prod.fst = some nm) ∧ (i = 0 → nm = ⟨#[]⟩) ∧ wr.ownsRow w.heap.size 70 2 oo i (enV acc) ∧ CR c st wr ∧ Fr (fun j => j = c) w wr) (fun _ _ iv _ _ _ _ _ => n - (intOf iv).toNat)
 case atStart => exact ⟨0, _, s5, ⟨#[]⟩, 0, [], by omega, rfl, rfl, rfl, by omega, rfl, HT.out, fun j hj => by omega, fun _ => rfl, ⟨rfl, .inl ⟨rfl, rfl⟩⟩, HD0.out.1, HD0.out.2⟩
 case round =>
  obtain ⟨i, oo, st, nm, all, acc, hi, rfl, rfl, rfl, hl1, hal, hen, hnm, hn0, ho, hI, hF⟩ := hrel
  have HN0 : Hid _ := hn0
  clear hn0
  obtain ⟨ao, co, hsv⟩ := own_shape ho
  subst hsv
  have g2 : wr.cell? ⟨c, 2, none⟩ = some (.bool st.wrong) := cell_of_row _ _ _ _ 239 _ hI.row
  have HO : Hid _ := ho
  have HF : Hid _ := hF
  have HEN : Hid _ := hen
  have HAL : Hid _ := hal
  have HI : Hid _ := hI
  have HNM : Hid _ := hnm
  by_cases hlt : i < n ∧ st.wrong = false
  ·obtain ⟨hlt, hwr⟩ := hlt
   rw [hwr] at g2
   have hlt1 : (i : Int) < (n : Int) := by omega
   have hk : n - i = (n - (i + 1)) + 1 := by omega
   have hen2 := hen
   rw [hk, RS.ents] at hen2
   have hln := entry_le st nm (4096 - (all : Int)) (by omega)
   obtain ⟨st1, hst1⟩ : ∃ x, (st.num 1 255).1 = x := ⟨_, rfl⟩
   obtain ⟨k1, hk1⟩ : ∃ x, (st.num 1 255).2 = x := ⟨_, rfl⟩
   have hk255 : k1 ≤ 255 := by rw [← hk1]; exact num_hi st 1 255
   obtain ⟨st2, hst2⟩ : ∃ x, (st1.bytes k1).1 = x := ⟨_, rfl⟩
   obtain ⟨nm', hnm'⟩ : ∃ x, (st1.bytes k1).2 = x := ⟨_, rfl⟩
   obtain ⟨st3, hst3⟩ : ∃ x, (if leT nm' nm then st2.refuse else st2) = x := ⟨_, rfl⟩
   obtain ⟨st4, hst4⟩ : ∃ x, (st3.num 0 (4096 - (all : Int))).1 = x := ⟨_, rfl⟩
   obtain ⟨ln, hln'⟩ : ∃ x, (st3.num 0 (4096 - (all : Int))).2 = x := ⟨_, rfl⟩
   have ee : st.entry nm (4096 - (all : Int)) = (st4, nm', ln) := by
    unfold RS.entry
    simp only [hst1, hk1, hst2, hnm', hst3, hst4, hln']
   rw [ee] at hen2 hln
   have hln2 : (ln : Int) ≤ 4096 - (all : Int) := hln
   have HEN2 : Hid _ := hen2
   have H1 : Hid (Calls Tryz.prog 131 #[.pointer (some ⟨c, 0, none⟩), .int .i64 1, .int .i64 255] wr fun e w' => e = .returned (.int .i64 k1) ∧ CDid c st1 wr w') := by
    have := cnum c st 1 255 wr hI (by decide)
    rw [hst1, hk1] at this
    exact this
   have H2 : Hid (∀ X, CR c st1 X → Calls Tryz.prog 130 #[.pointer (some ⟨c, 0, none⟩), .int .i64 k1] X fun e w' => e = .returned (.string nm') ∧ CDid c st2 X w') := fun X hX => by
    have := ctake c st1 k1 X hX (by omega)
    rw [hst2, hnm'] at this
    exact this
   have H4 : Hid (∀ X, CR c st3 X → Calls Tryz.prog 131 #[.pointer (some ⟨c, 0, none⟩), .int .i64 0, .int .i64 (4096 - (all : Int))] X fun e w' => e = .returned (.int .i64 ln) ∧ CDid c st4 X w') := fun X hX => by
    have := cnum c st3 0 (4096 - (all : Int)) X hX (by omega)
    rw [hst4, hln'] at this
    exact this
   have HK : Hid (st2.wrong = false → st1.wrong = false ∧ st2.field = st1.next ∧ 0 < nm'.size) := by
    intro h2
    rw [← hst2] at h2
    have h1 := bytes_ok h2
    refine ⟨h1, by rw [← hst2]; exact bytes_field h2, ?_⟩
    rw [← hnm', bytes_sz h2, ← hk1]
    rw [← hst1] at h1
    exact (num_ok h1).2.1
   have HS3 : Hid _ := hst3
   have hsub2 : IntKind.i64.wrap (4096 - (all : Int)) = 4096 - (all : Int) := by rw [IntKind.wrap_i64]; omega
   clear ho hI hF hen hal hen2 hk hst1 hk1 hst2 hnm' hst3 hst4 hln' hnm ee hln
   go_wp2_with fail
   refine Calls.mono H1.out ?_
   rintro e w1 ⟨rfl, hD1⟩
   have g1 : w1.cell? ⟨c, 1, none⟩ = some (.int .i64 (atC st1 : Nat)) := cell_of_row _ _ _ _ 239 _ hD1.1.row
   have HD1 : Hid _ := hD1
   obtain ⟨from_, hfrom⟩ : ∃ x, atC st1 = x := ⟨_, rfl⟩
   rw [hfrom] at g1
   have HFROM : Hid _ := hfrom
   clear hD1 g2 hfrom
   go_wp2_with fail
   refine Calls.mono (H2.out _ HD1.out.1) ?_
   rintro e w2 ⟨rfl, hD2⟩
   have hO2 : w2.ownsRow w.heap.size 70 2 (.slice ao i co) i (enV acc) := own_kept HO.out (fun q hq => by
    have hqc : q ≠ c := fun e => by
     obtain ⟨cur, hc⟩ := own_type HO.out q hq
     have h2 := HI.out.row
     rw [← e, hc] at h2; simp at h2
    have hql := own_lt HO.out q hq
    rw [hD2.2.old q (Nat.lt_of_lt_of_le hql HD1.out.2.size) hqc, HD1.out.2.old q hql hqc])
   have hF2 : Fr (fun j => j = c) w w2 := (HF.out.trans' HD1.out.2).trans' hD2.2
   have HC2 : Hid (CR c st2 w2) := hD2.1
   have HO2 : Hid _ := hO2
   have HF2 : Hid _ := hF2
   have g2 : w2.cell? ⟨c, 2, none⟩ = some (.bool st2.wrong) := cell_of_row _ _ _ _ 239 _ hD2.1.row
   have f1 := hD2.1.fz (k := 1)
   have f2 := hD2.1.fz (k := 2)
   clear hD2 g1 hO2 hF2 HD1
   cases hw2 : st2.wrong with
   | true =>
    rw [hw2] at g2
    have e3 : st3 = st2 := by rw [← HS3.out, refuse_wrong hw2]; simp
    subst e3
    go_wp2_with fail
    obtain ⟨X3, hX3⟩ : ∃ x, w2 = x := ⟨_, rfl⟩
    have hC3 := HC2.out
    have hF3 := HF2.out
    have hO3 := HO2.out
    rw [hX3] at hC3 hF3 hO3 ⊢
    clear hX3 g2 f1 f2 HC2 HO2 HF2
    have HC3 : Hid (CR c st3 X3) := hC3
    have HF3 : Hid (Fr (fun j => j = c) w X3) := hF3
    have HO3 : Hid (X3.ownsRow w.heap.size 70 2 (.slice ao i co) i (enV acc)) := hO3
    clear hC3 hF3 hO3
    refine Calls.mono (H4.out _ HC3.out) ?_
    rintro e w1 ⟨rfl, hD1⟩
    have hsz1 := hD1.2.size
    have HO1 : Hid (w1.ownsRow w.heap.size 70 2 (.slice ao i co) i (enV acc)) := own_kept HO3.out (fun q hq => hD1.2.old q (own_lt HO3.out q hq) (fun e => by
     obtain ⟨cur, hc⟩ := own_type HO3.out q hq
     have h2 := HC3.out.row
     rw [← e, hc] at h2; simp at h2))
    have HI1 : Hid (CR c st4 w1) := hD1.1
    have HF1' : Hid (Fr (fun j => j = c) w w1) := HF3.out.trans' hD1.2
    have HNW : Hid (∀ j u, [Value.string nm', .int .i64 ln][j]? = some u → (w1.alloc (.cells #[.string nm', .int .i64 ln] 70)).cell? ((⟨w1.heap.size, 0, none⟩ : Addr).add j) = some u) := fun j u hj => cells_new w1 [.string nm', .int .i64 ln] 70 j u hj
    have hg1 : w.heap.size ≤ w1.heap.size := HF1'.out.size
    clear hD1
    go_wp2_with (at_builtin; refine wpList_append_own _ rfl (.tmp 67) (.tmp 71) 59 rfl w.heap.size 70 i0 (.agg #[.string ⟨#[]⟩, .int .i64 0]) 2 24 Tryz.underlying59 hi0 z0 z1 z2 rfl (by decide) (.slice ao i co) i (enV acc) (by simp [Act.eval]) (HO1.out.alloc _) ⟨w1.heap.size, 0, none⟩ 1 1 [.string nm', .int .i64 ln] (by simp [Act.eval]) rfl HNW.out (by intro u hu; simp at hu; rcases hu with rfl | rfl <;> rfl) (by unfold maxLen; omega) (by omega) (by simp; omega) ?_; intro v2 w2 hO2 hG2 _; obtain ⟨a2, k2, hv2⟩ := own_shape hO2; subst hv2; have HO2 : Hid _ := hO2; have HG2 : Hid _ := hG2; clear hO2 hG2)
    go_roundw
    case rel =>
     have hne : ∀ q, (Value.slice ao i co).ownBlock = some q → q < w1.heap.size ∧ q ≠ c := fun q hq => ⟨own_lt HO1.out q hq, fun e => by
      obtain ⟨cur, hc⟩ := own_type HO1.out q hq
      have h2 := HI1.out.row
      rw [← e, hc] at h2; simp at h2⟩
     have hk2 : ∀ j, j < w1.heap.size → (Value.slice ao i co).ownBlock ≠ some j → w2.heap[j]? = w1.heap[j]? := fun j hj hn => by
      rw [HG2.out.block j (by simp; omega) (fun e => hn e.symm), heap_alloc_old _ _ hj]
     have hrl1 : c < w1.heap.size := (Array.getElem?_eq_some_iff.1 HI1.out.row).1
     refine ⟨i + 1, _, st4, nm', all + ln, acc ++ [(nm', ln)], by omega, rfl, by go_num, by go_num, by omega, by rw [List.length_append, HAL.out]; rfl, ?_, ?_, fun h0 => by omega, by rw [enV_snoc]; exact HO2.out, ⟨?_, HI1.out.nt, HI1.out.small⟩, ?_⟩
     ·have := HEN2.out
      rw [show (4096 : Int) - ((all + ln : Nat) : Int) = 4096 - (all : Int) - (ln : Int) by omega]
      exact this
     ·intro j hj
      have : j = i := by omega
      subst this
      rw [List.getElem?_append_right (by rw [HAL.out]; exact Nat.le_refl _), HAL.out]
      simp
     ·rw [hk2 c hrl1 (fun e => (hne c e).2 rfl)]; exact HI1.out.row
     ·exact (HF1'.out.alloc _).grown HG2.out (fun q hq => .inr (own_ge HO1.out q hq))
    case measure => simp [intOf]; omega
   | false =>
    rw [hw2] at g2
    obtain ⟨hw1, hfld, hpos⟩ := HK.out hw2
    by_cases hi0' : i = 0
    ·have e3 : st3 = st2 := by
      have hnmE : nm = ⟨#[]⟩ := HN0.out hi0'
      rw [← HS3.out, hnmE, leT_nil hpos]; simp
     subst e3
     have hi1 : ¬ ((i : Int) > 0) := by omega
     clear hi0'
     go_wp2_with fail
     obtain ⟨X3, hX3⟩ : ∃ x, w2 = x := ⟨_, rfl⟩
     have hC3 := HC2.out
     have hF3 := HF2.out
     have hO3 := HO2.out
     rw [hX3] at hC3 hF3 hO3 ⊢
     clear hX3 g2 f1 f2 HC2 HO2 HF2
     have HC3 : Hid (CR c st3 X3) := hC3
     have HF3 : Hid (Fr (fun j => j = c) w X3) := hF3
     have HO3 : Hid (X3.ownsRow w.heap.size 70 2 (.slice ao i co) i (enV acc)) := hO3
     clear hC3 hF3 hO3
     refine Calls.mono (H4.out _ HC3.out) ?_
     rintro e w1 ⟨rfl, hD1⟩
     have hsz1 := hD1.2.size
     have HO1 : Hid (w1.ownsRow w.heap.size 70 2 (.slice ao i co) i (enV acc)) := own_kept HO3.out (fun q hq => hD1.2.old q (own_lt HO3.out q hq) (fun e => by
      obtain ⟨cur, hc⟩ := own_type HO3.out q hq
      have h2 := HC3.out.row
      rw [← e, hc] at h2; simp at h2))
     have HI1 : Hid (CR c st4 w1) := hD1.1
     have HF1' : Hid (Fr (fun j => j = c) w w1) := HF3.out.trans' hD1.2
     have HNW : Hid (∀ j u, [Value.string nm', .int .i64 ln][j]? = some u → (w1.alloc (.cells #[.string nm', .int .i64 ln] 70)).cell? ((⟨w1.heap.size, 0, none⟩ : Addr).add j) = some u) := fun j u hj => cells_new w1 [.string nm', .int .i64 ln] 70 j u hj
     have hg1 : w.heap.size ≤ w1.heap.size := HF1'.out.size
     clear hD1
     go_wp2_with (at_builtin; refine wpList_append_own _ rfl (.tmp 67) (.tmp 71) 59 rfl w.heap.size 70 i0 (.agg #[.string ⟨#[]⟩, .int .i64 0]) 2 24 Tryz.underlying59 hi0 z0 z1 z2 rfl (by decide) (.slice ao i co) i (enV acc) (by simp [Act.eval]) (HO1.out.alloc _) ⟨w1.heap.size, 0, none⟩ 1 1 [.string nm', .int .i64 ln] (by simp [Act.eval]) rfl HNW.out (by intro u hu; simp at hu; rcases hu with rfl | rfl <;> rfl) (by unfold maxLen; omega) (by omega) (by simp; omega) ?_; intro v2 w2 hO2 hG2 _; obtain ⟨a2, k2, hv2⟩ := own_shape hO2; subst hv2; have HO2 : Hid _ := hO2; have HG2 : Hid _ := hG2; clear hO2 hG2)
     go_roundw
     case rel =>
      have hne : ∀ q, (Value.slice ao i co).ownBlock = some q → q < w1.heap.size ∧ q ≠ c := fun q hq => ⟨own_lt HO1.out q hq, fun e => by
       obtain ⟨cur, hc⟩ := own_type HO1.out q hq
       have h2 := HI1.out.row
       rw [← e, hc] at h2; simp at h2⟩
      have hk2 : ∀ j, j < w1.heap.size → (Value.slice ao i co).ownBlock ≠ some j → w2.heap[j]? = w1.heap[j]? := fun j hj hn => by
       rw [HG2.out.block j (by simp; omega) (fun e => hn e.symm), heap_alloc_old _ _ hj]
      have hrl1 : c < w1.heap.size := (Array.getElem?_eq_some_iff.1 HI1.out.row).1
      refine ⟨i + 1, _, st4, nm', all + ln, acc ++ [(nm', ln)], by omega, rfl, by go_num, by go_num, by omega, by rw [List.length_append, HAL.out]; rfl, ?_, ?_, fun h0 => by omega, by rw [enV_snoc]; exact HO2.out, ⟨?_, HI1.out.nt, HI1.out.small⟩, ?_⟩
      ·have := HEN2.out
       rw [show (4096 : Int) - ((all + ln : Nat) : Int) = 4096 - (all : Int) - (ln : Int) by omega]
       exact this
      ·intro j hj
       have : j = i := by omega
       subst this
       rw [List.getElem?_append_right (by rw [HAL.out]; exact Nat.le_refl _), HAL.out]
       simp
      ·rw [hk2 c hrl1 (fun e => (hne c e).2 rfl)]; exact HI1.out.row
      ·exact (HF1'.out.alloc _).grown HG2.out (fun q hq => .inr (own_ge HO1.out q hq))
     case measure => simp [intOf]; omega
    ·obtain ⟨m, hm⟩ : ∃ m, i = m + 1 := ⟨i - 1, by omega⟩
     have hm2 := HNM.out m hm.symm
     have hml : m < acc.length := by rw [HAL.out]; omega
     rw [List.getElem?_eq_getElem hml] at hm2
     have hmn : acc[m].1 = nm := by simpa using hm2
     obtain ⟨go, hao, hgo, x0, x1⟩ := en_cells HAL.out HO2.out m hml
     subst hao
     rw [hmn] at x0
     have hi1 : (i : Int) > 0 := by omega
     have hi2 : IntKind.i64.wrap ((i : Int) - 1) = (m : Int) := by rw [IntKind.wrap_i64]; omega
     have hi3 : (i : Int) - 1 = (m : Int) := by omega
     have hi4 : (m : Int) < (i : Int) := by omega
     have hi5 : (0 : Int) ≤ (m : Int) := by omega
     have HIM : Hid (i = m + 1) := hm
     clear hm hm2 hml hmn x1 hi0' hi2
     have hi2 : IntKind.i64.wrap (m : Int) = (m : Int) := by rw [IntKind.wrap_i64]; omega
     cases hle : leT nm' nm with
     | false =>
      have hle' : (Op.bytesLess nm'.toList nm.toList || nm'.toList == nm.toList) = false := hle
      have e3 : st3 = st2 := by rw [← HS3.out, hle]; simp
      subst e3
      go_wp2_with fail
      obtain ⟨X3, hX3⟩ : ∃ x, w2 = x := ⟨_, rfl⟩
      have hC3 := HC2.out
      have hF3 := HF2.out
      have hO3 := HO2.out
      rw [hX3] at hC3 hF3 hO3 ⊢
      clear hX3 g2 f1 f2 HC2 HO2 HF2 x0
      obtain ⟨ao, hao⟩ : ∃ ao, (some ⟨go, 0, none⟩ : Option Addr) = ao := ⟨_, rfl⟩
      rw [hao] at hO3 HO ⊢
      clear hao
      have HC3 : Hid (CR c st3 X3) := hC3
      have HF3 : Hid (Fr (fun j => j = c) w X3) := hF3
      have HO3 : Hid (X3.ownsRow w.heap.size 70 2 (.slice ao i co) i (enV acc)) := hO3
      clear hC3 hF3 hO3
      refine Calls.mono (H4.out _ HC3.out) ?_
      rintro e w1 ⟨rfl, hD1⟩
      have hsz1 := hD1.2.size
      have HO1 : Hid (w1.ownsRow w.heap.size 70 2 (.slice ao i co) i (enV acc)) := own_kept HO3.out (fun q hq => hD1.2.old q (own_lt HO3.out q hq) (fun e => by
       obtain ⟨cur, hc⟩ := own_type HO3.out q hq
       have h2 := HC3.out.row
       rw [← e, hc] at h2; simp at h2))
      have HI1 : Hid (CR c st4 w1) := hD1.1
      have HF1' : Hid (Fr (fun j => j = c) w w1) := HF3.out.trans' hD1.2
      have HNW : Hid (∀ j u, [Value.string nm', .int .i64 ln][j]? = some u → (w1.alloc (.cells #[.string nm', .int .i64 ln] 70)).cell? ((⟨w1.heap.size, 0, none⟩ : Addr).add j) = some u) := fun j u hj => cells_new w1 [.string nm', .int .i64 ln] 70 j u hj
      have hg1 : w.heap.size ≤ w1.heap.size := HF1'.out.size
      clear hD1
      go_wp2_with (at_builtin; refine wpList_append_own _ rfl (.tmp 67) (.tmp 71) 59 rfl w.heap.size 70 i0 (.agg #[.string ⟨#[]⟩, .int .i64 0]) 2 24 Tryz.underlying59 hi0 z0 z1 z2 rfl (by decide) (.slice ao i co) i (enV acc) (by simp [Act.eval]) (HO1.out.alloc _) ⟨w1.heap.size, 0, none⟩ 1 1 [.string nm', .int .i64 ln] (by simp [Act.eval]) rfl HNW.out (by intro u hu; simp at hu; rcases hu with rfl | rfl <;> rfl) (by unfold maxLen; omega) (by omega) (by simp; omega) ?_; intro v2 w2 hO2 hG2 _; obtain ⟨a2, k2, hv2⟩ := own_shape hO2; subst hv2; have HO2 : Hid _ := hO2; have HG2 : Hid _ := hG2; clear hO2 hG2)
      go_roundw
      case rel =>
       have hne : ∀ q, (Value.slice ao i co).ownBlock = some q → q < w1.heap.size ∧ q ≠ c := fun q hq => ⟨own_lt HO1.out q hq, fun e => by
        obtain ⟨cur, hc⟩ := own_type HO1.out q hq
        have h2 := HI1.out.row
        rw [← e, hc] at h2; simp at h2⟩
       have hk2 : ∀ j, j < w1.heap.size → (Value.slice ao i co).ownBlock ≠ some j → w2.heap[j]? = w1.heap[j]? := fun j hj hn => by
        rw [HG2.out.block j (by simp; omega) (fun e => hn e.symm), heap_alloc_old _ _ hj]
       have hrl1 : c < w1.heap.size := (Array.getElem?_eq_some_iff.1 HI1.out.row).1
       refine ⟨i + 1, _, st4, nm', all + ln, acc ++ [(nm', ln)], by omega, rfl, by go_num, by go_num, by omega, by rw [List.length_append, HAL.out]; rfl, ?_, ?_, fun h0 => by omega, by rw [enV_snoc]; exact HO2.out, ⟨?_, HI1.out.nt, HI1.out.small⟩, ?_⟩
       ·have := HEN2.out
        rw [show (4096 : Int) - ((all + ln : Nat) : Int) = 4096 - (all : Int) - (ln : Int) by omega]
        exact this
       ·intro j hj
        have : j = i := by omega
        subst this
        rw [List.getElem?_append_right (by rw [HAL.out]; exact Nat.le_refl _), HAL.out]
        simp
       ·rw [hk2 c hrl1 (fun e => (hne c e).2 rfl)]; exact HI1.out.row
       ·exact (HF1'.out.alloc _).grown HG2.out (fun q hq => .inr (own_ge HO1.out q hq))
      case measure => simp [intOf]; omega
     | true =>
      have hle' : (Op.bytesLess nm'.toList nm.toList || nm'.toList == nm.toList) = true := hle
      have hs1 := set_heap w2 c 2 (.bool true) _ _ _ HC2.out.row
      have hs2 := set_heap (w2.setCell ⟨c, 2, none⟩ (.bool true)) c 1 (.int .i64 from_) _ _ _ hs1
      have hC3 : CR c st3 ((w2.setCell ⟨c, 2, none⟩ (.bool true)).setCell ⟨c, 1, none⟩ (.int .i64 from_)) := by
       refine ⟨?_, ?_, ?_⟩
       ·rw [hs2, ← HS3.out, hle]
        have e1 : atC st2.refuse = from_ := by
         show st2.field = from_
         rw [hfld, ← atC_ok hw1, HFROM.out]
        simp only [if_true]
        unfold cuC
        rw [e1]
        rfl
       ·rw [← HS3.out, hle]; exact HC2.out.nt
       ·rw [← HS3.out, hle]; exact HC2.out.small
      have hF3 : Fr (fun j => j = c) w ((w2.setCell ⟨c, 2, none⟩ (.bool true)).setCell ⟨c, 1, none⟩ (.int .i64 from_)) := (HF2.out.set (.inl rfl) _ _).set (.inl rfl) _ _
      have hO3 : ((w2.setCell ⟨c, 2, none⟩ (.bool true)).setCell ⟨c, 1, none⟩ (.int .i64 from_)).ownsRow w.heap.size 70 2 (.slice (some ⟨go, 0, none⟩) i co) i (enV acc) := own_kept HO2.out (fun q hq => by
       have hqc : q ≠ c := fun e => by
        obtain ⟨cur, hc⟩ := own_type HO2.out q hq
        have h2 := HC2.out.row
        rw [← e, hc] at h2; simp at h2
       rw [set_other _ _ _ _ _ hqc, set_other _ _ _ _ _ hqc])
      have m1 : (w2.setCell ⟨c, 2, none⟩ (.bool true)).cell? ⟨c, 1, none⟩ = some (.int .i64 (atC st2 : Nat)) := cell_of_row _ _ _ _ 239 _ hs1
      have m2 : (w2.setCell ⟨c, 2, none⟩ (.bool true)).frozen? ⟨c, 1, none⟩ = false := frozen_of_row _ _ _ _ 239 hs1
      obtain ⟨X3, hX3⟩ : ∃ x, (w2.setCell ⟨c, 2, none⟩ (.bool true)).setCell ⟨c, 1, none⟩ (.int .i64 from_) = x := ⟨_, rfl⟩
      rw [hX3] at hC3 hF3 hO3
      have HXX : Hid _ := hX3
      clear hs1 hs2 hX3
      go_wp2_with fail
      rw [HXX.out]
      clear HXX g2 f1 f2 HC2 HO2 HF2 x0 m1 m2
      obtain ⟨ao, hao⟩ : ∃ ao, (some ⟨go, 0, none⟩ : Option Addr) = ao := ⟨_, rfl⟩
      rw [hao] at hO3 HO ⊢
      clear hao
      have HC3 : Hid (CR c st3 X3) := hC3
      have HF3 : Hid (Fr (fun j => j = c) w X3) := hF3
      have HO3 : Hid (X3.ownsRow w.heap.size 70 2 (.slice ao i co) i (enV acc)) := hO3
      clear hC3 hF3 hO3
      refine Calls.mono (H4.out _ HC3.out) ?_
      rintro e w1 ⟨rfl, hD1⟩
      have hsz1 := hD1.2.size
      have HO1 : Hid (w1.ownsRow w.heap.size 70 2 (.slice ao i co) i (enV acc)) := own_kept HO3.out (fun q hq => hD1.2.old q (own_lt HO3.out q hq) (fun e => by
       obtain ⟨cur, hc⟩ := own_type HO3.out q hq
       have h2 := HC3.out.row
       rw [← e, hc] at h2; simp at h2))
      have HI1 : Hid (CR c st4 w1) := hD1.1
      have HF1' : Hid (Fr (fun j => j = c) w w1) := HF3.out.trans' hD1.2
      have HNW : Hid (∀ j u, [Value.string nm', .int .i64 ln][j]? = some u → (w1.alloc (.cells #[.string nm', .int .i64 ln] 70)).cell? ((⟨w1.heap.size, 0, none⟩ : Addr).add j) = some u) := fun j u hj => cells_new w1 [.string nm', .int .i64 ln] 70 j u hj
      have hg1 : w.heap.size ≤ w1.heap.size := HF1'.out.size
      clear hD1
      go_wp2_with (at_builtin; refine wpList_append_own _ rfl (.tmp 67) (.tmp 71) 59 rfl w.heap.size 70 i0 (.agg #[.string ⟨#[]⟩, .int .i64 0]) 2 24 Tryz.underlying59 hi0 z0 z1 z2 rfl (by decide) (.slice ao i co) i (enV acc) (by simp [Act.eval]) (HO1.out.alloc _) ⟨w1.heap.size, 0, none⟩ 1 1 [.string nm', .int .i64 ln] (by simp [Act.eval]) rfl HNW.out (by intro u hu; simp at hu; rcases hu with rfl | rfl <;> rfl) (by unfold maxLen; omega) (by omega) (by simp; omega) ?_; intro v2 w2 hO2 hG2 _; obtain ⟨a2, k2, hv2⟩ := own_shape hO2; subst hv2; have HO2 : Hid _ := hO2; have HG2 : Hid _ := hG2; clear hO2 hG2)
      go_roundw
      case rel =>
       have hne : ∀ q, (Value.slice ao i co).ownBlock = some q → q < w1.heap.size ∧ q ≠ c := fun q hq => ⟨own_lt HO1.out q hq, fun e => by
        obtain ⟨cur, hc⟩ := own_type HO1.out q hq
        have h2 := HI1.out.row
        rw [← e, hc] at h2; simp at h2⟩
       have hk2 : ∀ j, j < w1.heap.size → (Value.slice ao i co).ownBlock ≠ some j → w2.heap[j]? = w1.heap[j]? := fun j hj hn => by
        rw [HG2.out.block j (by simp; omega) (fun e => hn e.symm), heap_alloc_old _ _ hj]
       have hrl1 : c < w1.heap.size := (Array.getElem?_eq_some_iff.1 HI1.out.row).1
       refine ⟨i + 1, _, st4, nm', all + ln, acc ++ [(nm', ln)], by omega, rfl, by go_num, by go_num, by omega, by rw [List.length_append, HAL.out]; rfl, ?_, ?_, fun h0 => by omega, by rw [enV_snoc]; exact HO2.out, ⟨?_, HI1.out.nt, HI1.out.small⟩, ?_⟩
       ·have := HEN2.out
        rw [show (4096 : Int) - ((all + ln : Nat) : Int) = 4096 - (all : Int) - (ln : Int) by omega]
        exact this
       ·intro j hj
        have : j = i := by omega
        subst this
        rw [List.getElem?_append_right (by rw [HAL.out]; exact Nat.le_refl _), HAL.out]
        simp
       ·rw [hk2 c hrl1 (fun e => (hne c e).2 rfl)]; exact HI1.out.row
       ·exact (HF1'.out.alloc _).grown HG2.out (fun q hq => .inr (own_ge HO1.out q hq))
      case measure => simp [intOf]; omega
  ·by_cases hin : i < n
   ·have hw : st.wrong = true := by
     cases hh : st.wrong with
     | true => rfl
     | false => exact absurd ⟨hin, hh⟩ hlt
    rw [hw] at g2
    have hin1 : (i : Int) < (n : Int) := by omega
    have hTT : T.1 = st := by rw [← HEN.out]; exact ents_wrong _ _ _ _ _ hw
    have HTT : Hid _ := hTT
    have HW : Hid _ := hw
    clear ho hI hF hen hal hTT hw hnm hlt
    go_wp2_with fail
    go_ret
    refine ⟨_, acc, rfl, ?_, ⟨by rw [HTT.out]; exact HI.out, HF.out⟩, by rw [HAL.out]; omega, fun h => by rw [HTT.out, HW.out] at h; cases h⟩
    rw [HAL.out]; exact HO.out
   ·have ei : i = n := by omega
    have hin1 : ¬ ((i : Int) < (n : Int)) := by omega
    have hTT : T = (st, acc) := by have := HEN.out; rw [ei, Nat.sub_self] at this; exact this.symm
    have HTT : Hid _ := hTT
    clear ho hI hF hen hal hTT hnm hlt ei
    go_wp2_with fail
    go_ret
    refine ⟨Value.slice ao i co, rfl, acc, ?_, ⟨?_, HF.out⟩, ?_, ?_⟩
    ·rw [HAL.out]; exact HO.out
    ·rw [HTT.out]; exact HI.out
    ·rw [HAL.out]; omega
    ·intro _; rw [HTT.out]
end Go.Proofs.YtadinjaocnlglaaGreatDoor
