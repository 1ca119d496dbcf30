/-
  The walks of up, joined.
-/
import Derived.Test.YtnghgdficnkbbaaDoorU5
namespace Go.Proofs.YtnghgdficnkbbaaDoor
open Go.RowKit
theorem climb_lo (D : ByteArray → ByteArray) (leaf : ByteArray) (n i k : Nat) (P : Nat → ByteArray) (h2 : 2 ≤ n) (hi : i < hf n) (hk : (sidesT (hf n) i).length = k) : climbT D leaf (sidesT n i) (lst P (k + 1)) = D (⟨#[1]⟩ ++ climbT D leaf (sidesT (hf n) i) (lst P k) ++ P k) := by
  rw [sidesT_lo n i h2 hi, lst_succ, climb_snoc _ _ _ _ _ _ (by rw [hk, lst_len])]; rfl
theorem climb_hi (D : ByteArray → ByteArray) (leaf : ByteArray) (n i k : Nat) (P : Nat → ByteArray) (h2 : 2 ≤ n) (hi : ¬ i < hf n) (hk : (sidesT (n - hf n) (i - hf n)).length = k) : climbT D leaf (sidesT n i) (lst P (k + 1)) = D (⟨#[1]⟩ ++ P k ++ climbT D leaf (sidesT (n - hf n) (i - hf n)) (lst P k)) := by
  rw [sidesT_hi n i h2 hi, lst_succ, climb_snoc _ _ _ _ _ _ (by rw [hk, lst_len])]; rfl
theorem climb_le (D : ByteArray → ByteArray) (c : Nat) (hD : ∀ s, (D s).size ≤ c) (leaf : ByteArray) (hl : leaf.size ≤ c) (S : List Bool) (P : Nat → ByteArray) : (climbT D leaf S (lst P S.length)).size ≤ c := by
  rw [← clN_all]; exact clN_le _ _ _ _ _ hl hD _
theorem len3 (a b : ByteArray) (ha : a.size ≤ 35184372088832) (hb : b.size ≤ 35184372088832) : ((⟨#[1]⟩ : ByteArray) ++ a ++ b).size ≤ 140737488351232 := by
  simp only [ByteArray.size_append]
  have : (⟨#[1]⟩ : ByteArray).size = 1 := rfl
  omega
set_option maxHeartbeats 2000000 in
theorem up_any (kt : Nat → Int) (P : Nat → ByteArray) : ∀ (k n i : Nat) (leaf : ByteArray) (b cap : Nat) (w : World), i < n → n ≤ 1000 → (sidesT n i).length = k → k ≤ cap → cap ≤ 1000 → Gd kt w → b < w.heap.size → leaf.size ≤ 35184372088832 → (∀ j, j < k → (P j).size ≤ 35184372088832) → Cl w b k (tI P) →
    Calls Tryd.prog 17 #[.string leaf, .int .i64 i, .int .i64 n, .slice (some ⟨b, 0, none⟩) k cap] w fun e w' => e = .returned (.string (climbT (ofT kt) leaf (sidesT n i) (lst P k))) ∧ Below w.heap.size w w' := by
  intro k
  induction k with
  | zero =>
    intro n i leaf b cap w hi hn hk hkc hc hG hb hl hP hC
    have h1 : n = 1 := by
      by_cases h2 : n < 2
      · omega
      · exfalso
        by_cases hh : i < hf n
        · rw [sidesT_lo n i (by omega) hh, List.length_append] at hk; simp at hk
        · rw [sidesT_hi n i (by omega) hh, List.length_append] at hk; simp at hk
    subst h1
    rw [sidesT_1 1 i (by omega), climb_nil]
    clear hG hP hC hk
    go_enter Tryd.func17, Tryd.ntmps17
    go_wp2
    go_ret
    exact ⟨rfl, Below.refl _ _⟩
  | succ k ih =>
    intro n i leaf b cap w hi hn hk hkc hc hG hb hl hP hC
    have h2 : 2 ≤ n := by
      by_cases h2 : n < 2
      · rw [sidesT_1 n i h2] at hk; simp at hk
      · omega
    have e1 := hf_lt n h2
    have e2 := hf_pos n
    have HG : Hid _ := hG
    have HC : Hid (Cl w b (k + 1) (tI P)) := hC
    have hd1 : decide ((n : Int) < 2) = false := by simp; omega
    have hd2 : (((k + 1 : Nat) : Int) == 0) = false := by simp; omega
    have c1 : w.cell? ⟨b, k, none⟩ = some (.string (P k)) := hC k (by omega)
    have sk := hP k (by omega)
    have HU : Hid (∀ e : Nat, 2 ^ e < n → n ≤ 2 * 2 ^ e → 2 ^ e = hf n) := fun e h h' => hf_one e n h h'
    by_cases hlo : i < hf n
    · have hk1 : (sidesT (hf n) i).length = k := by rw [sidesT_lo n i h2 hlo, List.length_append] at hk; simp at hk; omega
      rw [climb_lo _ leaf n i k P h2 hlo hk1]
      have H1 : Hid _ := fun W h1 h2 h3 => ih (hf n) i leaf b cap W hlo (by omega) hk1 (by omega) hc h1 h2 hl (fun j hj => hP j (by omega)) h3
      have hX := climb_le (ofT kt) 35184372088832 (ofT_le kt) leaf hl (sidesT (hf n) i) P
      rw [hk1] at hX
      obtain ⟨X, hXe⟩ : ∃ X, climbT (ofT kt) leaf (sidesT (hf n) i) (lst P k) = X := ⟨_, rfl⟩
      rw [hXe] at H1 hX ⊢
      obtain ⟨m, hm⟩ : ∃ m, hf n = m := ⟨_, rfl⟩
      rw [hm] at e1 e2 hlo H1 HU
      clear ih hG hC hP hk hk1 hXe hm
      go_enter Tryd.func17, Tryd.ntmps17
      go_wp2
      go_loop [9] (fun pv => ∃ p e : Nat, p = 2 ^ e ∧ pv = .int .i64 p ∧ p < n) (fun pv => n - (intOf pv).toNat)
      case atStart => exact ⟨1, 0, rfl, rfl, by omega⟩
      case round =>
        obtain ⟨p, e, hpe, rfl, hpn⟩ := hrel
        have hp0 : 0 < p := by rw [hpe]; exact Nat.two_pow_pos _
        have HPE : Hid _ := hpe
        clear hpe
        by_cases hlt : (p : Int) < (n : Int) - (p : Int)
        · go_wp2
          go_round
          case rel => exact ⟨2 * p, e + 1, by rw [HPE.out, Nat.pow_succ]; omega, by go_num, by omega⟩
          case measure => simp [intOf]; omega
        · have hpm : p = m := by
            have := HU.out e (by rw [← HPE.out]; exact hpn) (by rw [← HPE.out]; omega)
            rw [HPE.out]; exact this
          subst hpm
          clear HPE
          go_wp2_with fail
          refine Calls.mono (H1.out _ HG.out hb (fun j hj => HC.out j (by omega))) ?_
          rintro e' w2 ⟨rfl, hB2⟩
          have HB2 : Hid _ := hB2
          clear hB2
          go_wp2_with fail
          refine (vdigest_any kt _ w2 (len3 X (P k) hX sk) (HG.out.below HB2.out).tab (HG.out.below HB2.out).one).mono ?_
          rintro e' w3 ⟨rfl, hB3⟩
          have hB : Below w.heap.size w w3 := HB2.out.trans (hB3.mono HB2.out.size)
          clear hB3
          go_wp2
          go_ret
          exact ⟨rfl, hB⟩
    · have hk1 : (sidesT (n - hf n) (i - hf n)).length = k := by rw [sidesT_hi n i h2 hlo, List.length_append] at hk; simp at hk; omega
      rw [climb_hi _ leaf n i k P h2 hlo hk1]
      have H1 : Hid _ := fun W h1 h2 h3 => ih (n - hf n) (i - hf n) leaf b cap W (by omega) (by omega) hk1 (by omega) hc h1 h2 hl (fun j hj => hP j (by omega)) h3
      have hX := climb_le (ofT kt) 35184372088832 (ofT_le kt) leaf hl (sidesT (n - hf n) (i - hf n)) P
      rw [hk1] at hX
      obtain ⟨X, hXe⟩ : ∃ X, climbT (ofT kt) leaf (sidesT (n - hf n) (i - hf n)) (lst P k) = X := ⟨_, rfl⟩
      rw [hXe] at H1 hX ⊢
      obtain ⟨m, hm⟩ : ∃ m, hf n = m := ⟨_, rfl⟩
      rw [hm] at e1 e2 hlo H1 HU
      clear ih hG hC hP hk hk1 hXe hm
      have z1 : (((n - m : Nat)) : Int) = (n : Int) - (m : Int) := by omega
      have z2 : (((i - m : Nat)) : Int) = (i : Int) - (m : Int) := by omega
      rw [z1, z2] at H1
      clear z1 z2
      go_enter Tryd.func17, Tryd.ntmps17
      go_wp2
      go_loop [9] (fun pv => ∃ p e : Nat, p = 2 ^ e ∧ pv = .int .i64 p ∧ p < n) (fun pv => n - (intOf pv).toNat)
      case atStart => exact ⟨1, 0, rfl, rfl, by omega⟩
      case round =>
        obtain ⟨p, e, hpe, rfl, hpn⟩ := hrel
        have hp0 : 0 < p := by rw [hpe]; exact Nat.two_pow_pos _
        have HPE : Hid _ := hpe
        clear hpe
        by_cases hlt : (p : Int) < (n : Int) - (p : Int)
        · go_wp2
          go_round
          case rel => exact ⟨2 * p, e + 1, by rw [HPE.out, Nat.pow_succ]; omega, by go_num, by omega⟩
          case measure => simp [intOf]; omega
        · have hpm : p = m := by
            have := HU.out e (by rw [← HPE.out]; exact hpn) (by rw [← HPE.out]; omega)
            rw [HPE.out]; exact this
          subst hpm
          clear HPE
          go_wp2_with fail
          refine Calls.mono (H1.out _ HG.out hb (fun j hj => HC.out j (by omega))) ?_
          rintro e' w2 ⟨rfl, hB2⟩
          have HB2 : Hid _ := hB2
          clear hB2
          go_wp2_with fail
          refine (vdigest_any kt _ w2 (len3 (P k) X sk hX) (HG.out.below HB2.out).tab (HG.out.below HB2.out).one).mono ?_
          rintro e' w3 ⟨rfl, hB3⟩
          have hB : Below w.heap.size w w3 := HB2.out.trans (hB3.mono HB2.out.size)
          clear hB3
          go_wp2
          go_ret
          exact ⟨rfl, hB⟩
theorem tl_bne (a b : ByteArray) : (a.toList != b.toList) = decide (a ≠ b) := by
  rw [bne, tl_beq]; simp
set_option maxHeartbeats 4000000 in
theorem joined_any (kt : Nat → Int) (P : Nat → ByteArray) : ∀ (k n i : Nat) (l1 l2 : ByteArray) (b cap : Nat) (w : World), i < n → n ≤ 1000 → (sidesT n i).length = k → k ≤ cap → cap ≤ 1000 → Gd kt w → b < w.heap.size → l1.size ≤ 35184372088832 → l2.size ≤ 35184372088832 → (∀ j, j < k → (P j).size ≤ 35184372088832) → Cl w b k (tI P) → l1 ≠ l2 → climbT (ofT kt) l1 (sidesT n i) (lst P k) = climbT (ofT kt) l2 (sidesT n i) (lst P k) →
    Calls Tryd.prog 10 #[.string l1, .string l2, .int .i64 i, .int .i64 n, .slice (some ⟨b, 0, none⟩) k cap] w fun e w' => e = .returned (.bool true) ∧ Below w.heap.size w w' := by
  intro k
  induction k with
  | zero =>
    intro n i l1 l2 b cap w hi hn hk hkc hc hG hb hl1 hl2 hP hC hne heq
    exfalso
    rw [List.eq_nil_of_length_eq_zero hk] at heq
    exact hne heq
  | succ k ih =>
    intro n i l1 l2 b cap w hi hn hk hkc hc hG hb hl1 hl2 hP hC hne heq
    have h2 : 2 ≤ n := by
      by_cases h2 : n < 2
      · rw [sidesT_1 n i h2] at hk; simp at hk
      · omega
    have e1 := hf_lt n h2
    have e2 := hf_pos n
    have HG : Hid _ := hG
    have HC : Hid (Cl w b (k + 1) (tI P)) := hC
    have hd1 : decide ((n : Int) < 2) = false := by simp; omega
    have hd2 : (((k + 1 : Nat) : Int) == 0) = false := by simp; omega
    have c1 : w.cell? ⟨b, k, none⟩ = some (.string (P k)) := hC k (by omega)
    have sk := hP k (by omega)
    have HU : Hid (∀ e : Nat, 2 ^ e < n → n ≤ 2 * 2 ^ e → 2 ^ e = hf n) := fun e h h' => hf_one e n h h'
    by_cases hlo : i < hf n
    · have hk1 : (sidesT (hf n) i).length = k := by rw [sidesT_lo n i h2 hlo, List.length_append] at hk; simp at hk; omega
      rw [climb_lo _ l1 n i k P h2 hlo hk1, climb_lo _ l2 n i k P h2 hlo hk1] at heq
      have H1 : Hid _ := fun W h1 h2 h3 => up_any kt P k (hf n) i l1 b cap W hlo (by omega) hk1 (by omega) hc h1 h2 hl1 (fun j hj => hP j (by omega)) h3
      have H2 : Hid _ := fun W h1 h2 h3 => up_any kt P k (hf n) i l2 b cap W hlo (by omega) hk1 (by omega) hc h1 h2 hl2 (fun j hj => hP j (by omega)) h3
      have H3 : Hid _ := fun W h1 h2 h3 h4 => ih (hf n) i l1 l2 b cap W hlo (by omega) hk1 (by omega) hc h1 h2 hl1 hl2 (fun j hj => hP j (by omega)) h3 hne h4
      have hX := climb_le (ofT kt) 35184372088832 (ofT_le kt) l1 hl1 (sidesT (hf n) i) P
      have hY := climb_le (ofT kt) 35184372088832 (ofT_le kt) l2 hl2 (sidesT (hf n) i) P
      rw [hk1] at hX hY
      obtain ⟨X, hXe⟩ : ∃ X, climbT (ofT kt) l1 (sidesT (hf n) i) (lst P k) = X := ⟨_, rfl⟩
      obtain ⟨Y, hYe⟩ : ∃ Y, climbT (ofT kt) l2 (sidesT (hf n) i) (lst P k) = Y := ⟨_, rfl⟩
      rw [hXe] at H1 H3 hX heq
      rw [hYe] at H2 H3 hY heq
      obtain ⟨m, hm⟩ : ∃ m, hf n = m := ⟨_, rfl⟩
      rw [hm] at e1 e2 hlo H1 H2 H3 HU
      have HE : Hid _ := heq
      clear ih hG hC hP hk hk1 hXe hYe hm heq hne
      go_enter Tryd.func10, Tryd.ntmps10
      go_wp2
      go_loop [11] (fun pv => ∃ p e : Nat, p = 2 ^ e ∧ pv = .int .i64 p ∧ p < n) (fun pv => n - (intOf pv).toNat)
      case atStart => exact ⟨1, 0, rfl, rfl, by omega⟩
      case round =>
        obtain ⟨p, e, hpe, rfl, hpn⟩ := hrel
        have hp0 : 0 < p := by rw [hpe]; exact Nat.two_pow_pos _
        have HPE : Hid _ := hpe
        clear hpe
        by_cases hlt : (p : Int) < (n : Int) - (p : Int)
        · go_wp2
          go_round
          case rel => exact ⟨2 * p, e + 1, by rw [HPE.out, Nat.pow_succ]; omega, by go_num, by omega⟩
          case measure => simp [intOf]; omega
        · have hpm : p = m := by
            have := HU.out e (by rw [← HPE.out]; exact hpn) (by rw [← HPE.out]; omega)
            rw [HPE.out]; exact this
          subst hpm
          clear HPE
          go_wp2_with fail
          refine Calls.mono (H1.out _ HG.out hb (fun j hj => HC.out j (by omega))) ?_
          rintro e' w2 ⟨rfl, hB2⟩
          have HB2 : Hid (Below w.heap.size w w2) := hB2
          have hb2 : b < w2.heap.size := Nat.lt_of_lt_of_le hb hB2.size
          have HG2 : Hid _ := HG.out.below hB2
          have HC2 : Hid (Cl w2 b (k + 1) (tI P)) := Cl.below HC.out hB2 hb
          clear hB2
          go_wp2_with fail
          refine Calls.mono (H2.out _ HG2.out hb2 (fun j hj => HC2.out j (by omega))) ?_
          rintro e' w3 ⟨rfl, hB3⟩
          have HB3 : Hid (Below w.heap.size w w3) := HB2.out.trans (hB3.mono HB2.out.size)
          have hb3 : b < w3.heap.size := Nat.lt_of_lt_of_le hb2 hB3.size
          have HG3 : Hid _ := HG2.out.below hB3
          have HC3 : Hid (Cl w3 b (k + 1) (tI P)) := Cl.below HC2.out hB3 hb2
          clear hB3
          by_cases hxy : X = Y
          · have hbn : (X.toList != Y.toList) = false := by rw [tl_bne]; simp [hxy]
            go_wp2_with fail
            refine Calls.mono (H3.out _ HG3.out hb3 (fun j hj => HC3.out j (by omega)) hxy) ?_
            rintro e' w4 ⟨rfl, hB4⟩
            have hB : Below w.heap.size w w4 := HB3.out.trans (hB4.mono HB3.out.size)
            clear hB4
            go_wp2
            go_ret
            exact ⟨rfl, hB⟩
          · have hbn : ¬ X.toList = Y.toList := by intro h; exact hxy (by have := tl_beq X Y; simpa [h] using this)
            go_wp2_with fail
            refine (vdigest_any kt _ w3 (len3 X (P k) hX sk) HG3.out.tab HG3.out.one).mono ?_
            rintro e' w4 ⟨rfl, hB4⟩
            have HB4 : Hid (Below w.heap.size w w4) := HB3.out.trans (hB4.mono HB3.out.size)
            have HG4 : Hid _ := HG3.out.below hB4
            clear hB4
            go_wp2_with fail
            refine (vdigest_any kt _ w4 (len3 Y (P k) hY sk) HG4.out.tab HG4.out.one).mono ?_
            rintro e' w5 ⟨rfl, hB5⟩
            have hB : Below w.heap.size w w5 := HB4.out.trans (hB5.mono HB4.out.size)
            clear hB5
            rw [HE.out]
            go_wp2
            go_ret
            exact ⟨rfl, hB⟩
    · have hk1 : (sidesT (n - hf n) (i - hf n)).length = k := by rw [sidesT_hi n i h2 hlo, List.length_append] at hk; simp at hk; omega
      rw [climb_hi _ l1 n i k P h2 hlo hk1, climb_hi _ l2 n i k P h2 hlo hk1] at heq
      have H1 : Hid _ := fun W h1 h2 h3 => up_any kt P k (n - hf n) (i - hf n) l1 b cap W (by omega) (by omega) hk1 (by omega) hc h1 h2 hl1 (fun j hj => hP j (by omega)) h3
      have H2 : Hid _ := fun W h1 h2 h3 => up_any kt P k (n - hf n) (i - hf n) l2 b cap W (by omega) (by omega) hk1 (by omega) hc h1 h2 hl2 (fun j hj => hP j (by omega)) h3
      have H3 : Hid _ := fun W h1 h2 h3 h4 => ih (n - hf n) (i - hf n) l1 l2 b cap W (by omega) (by omega) hk1 (by omega) hc h1 h2 hl1 hl2 (fun j hj => hP j (by omega)) h3 hne h4
      have hX := climb_le (ofT kt) 35184372088832 (ofT_le kt) l1 hl1 (sidesT (n - hf n) (i - hf n)) P
      have hY := climb_le (ofT kt) 35184372088832 (ofT_le kt) l2 hl2 (sidesT (n - hf n) (i - hf n)) P
      rw [hk1] at hX hY
      obtain ⟨X, hXe⟩ : ∃ X, climbT (ofT kt) l1 (sidesT (n - hf n) (i - hf n)) (lst P k) = X := ⟨_, rfl⟩
      obtain ⟨Y, hYe⟩ : ∃ Y, climbT (ofT kt) l2 (sidesT (n - hf n) (i - hf n)) (lst P k) = Y := ⟨_, rfl⟩
      rw [hXe] at H1 H3 hX heq
      rw [hYe] at H2 H3 hY heq
      obtain ⟨m, hm⟩ : ∃ m, hf n = m := ⟨_, rfl⟩
      rw [hm] at e1 e2 hlo H1 H2 H3 HU
      have HE : Hid _ := heq
      clear ih hG hC hP hk hk1 hXe hYe hm heq hne
      have z1 : (((n - m : Nat)) : Int) = (n : Int) - (m : Int) := by omega
      have z2 : (((i - m : Nat)) : Int) = (i : Int) - (m : Int) := by omega
      rw [z1, z2] at H1 H2 H3
      clear z1 z2
      go_enter Tryd.func10, Tryd.ntmps10
      go_wp2
      go_loop [11] (fun pv => ∃ p e : Nat, p = 2 ^ e ∧ pv = .int .i64 p ∧ p < n) (fun pv => n - (intOf pv).toNat)
      case atStart => exact ⟨1, 0, rfl, rfl, by omega⟩
      case round =>
        obtain ⟨p, e, hpe, rfl, hpn⟩ := hrel
        have hp0 : 0 < p := by rw [hpe]; exact Nat.two_pow_pos _
        have HPE : Hid _ := hpe
        clear hpe
        by_cases hlt : (p : Int) < (n : Int) - (p : Int)
        · go_wp2
          go_round
          case rel => exact ⟨2 * p, e + 1, by rw [HPE.out, Nat.pow_succ]; omega, by go_num, by omega⟩
          case measure => simp [intOf]; omega
        · have hpm : p = m := by
            have := HU.out e (by rw [← HPE.out]; exact hpn) (by rw [← HPE.out]; omega)
            rw [HPE.out]; exact this
          subst hpm
          clear HPE
          go_wp2_with fail
          refine Calls.mono (H1.out _ HG.out hb (fun j hj => HC.out j (by omega))) ?_
          rintro e' w2 ⟨rfl, hB2⟩
          have HB2 : Hid (Below w.heap.size w w2) := hB2
          have hb2 : b < w2.heap.size := Nat.lt_of_lt_of_le hb hB2.size
          have HG2 : Hid _ := HG.out.below hB2
          have HC2 : Hid (Cl w2 b (k + 1) (tI P)) := Cl.below HC.out hB2 hb
          clear hB2
          go_wp2_with fail
          refine Calls.mono (H2.out _ HG2.out hb2 (fun j hj => HC2.out j (by omega))) ?_
          rintro e' w3 ⟨rfl, hB3⟩
          have HB3 : Hid (Below w.heap.size w w3) := HB2.out.trans (hB3.mono HB2.out.size)
          have hb3 : b < w3.heap.size := Nat.lt_of_lt_of_le hb2 hB3.size
          have HG3 : Hid _ := HG2.out.below hB3
          have HC3 : Hid (Cl w3 b (k + 1) (tI P)) := Cl.below HC2.out hB3 hb2
          clear hB3
          by_cases hxy : X = Y
          · have hbn : (X.toList != Y.toList) = false := by rw [tl_bne]; simp [hxy]
            go_wp2_with fail
            refine Calls.mono (H3.out _ HG3.out hb3 (fun j hj => HC3.out j (by omega)) hxy) ?_
            rintro e' w4 ⟨rfl, hB4⟩
            have hB : Below w.heap.size w w4 := HB3.out.trans (hB4.mono HB3.out.size)
            clear hB4
            go_wp2
            go_ret
            exact ⟨rfl, hB⟩
          · have hbn : ¬ X.toList = Y.toList := by intro h; exact hxy (by have := tl_beq X Y; simpa [h] using this)
            go_wp2_with fail
            refine (vdigest_any kt _ w3 (len3 (P k) X sk hX) HG3.out.tab HG3.out.one).mono ?_
            rintro e' w4 ⟨rfl, hB4⟩
            have HB4 : Hid (Below w.heap.size w w4) := HB3.out.trans (hB4.mono HB3.out.size)
            have HG4 : Hid _ := HG3.out.below hB4
            clear hB4
            go_wp2_with fail
            refine (vdigest_any kt _ w4 (len3 (P k) Y sk hY) HG4.out.tab HG4.out.one).mono ?_
            rintro e' w5 ⟨rfl, hB5⟩
            have hB : Below w.heap.size w w5 := HB4.out.trans (hB5.mono HB4.out.size)
            clear hB5
            rw [HE.out]
            go_wp2
            go_ret
            exact ⟨rfl, hB⟩
end Go.Proofs.YtnghgdficnkbbaaDoor
