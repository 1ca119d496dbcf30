/-
  Every Parity and every Restore: both answers are one; what is done with them.
-/
import Derived.Test.YtbjgchlckmecaaaDoorQ7
import Derived.Test.YtbjgchlckmecaaaDoorQ9
import Derived.Test.YtbjgchlckmecaaaDoorE6
namespace Go.Proofs.YtbjgchlckmecaaaDoor
open Go.RowKit
set_option maxRecDepth 100000
/-- a list of texts that is handed over -/
def Lv (w : World) (v : Value) (n : Nat) (L : Nat → ByteArray) : Prop := (v = .slice none 0 0 ∧ n = 0) ∨ ∃ b cap, v = .slice (some ⟨b, 0, none⟩) n cap ∧ b < w.heap.size ∧ Cl w b n (tI L)
/-- a list of bools that is handed over -/
def Lb (w : World) (v : Value) (n : Nat) (h : Nat → Bool) : Prop := (v = .slice none 0 0 ∧ n = 0) ∨ ∃ b cap, v = .slice (some ⟨b, 0, none⟩) n cap ∧ b < w.heap.size ∧ Cl w b n (bI h)
/-- a list of bools that came in -/
def InB (w : World) (a : Option Addr) (n : Nat) (h : Nat → Bool) : Prop := ∀ i, i < n → ∃ b off, a = some ⟨b, off, none⟩ ∧ b < w.heap.size ∧ w.cell? ⟨b, off + i, none⟩ = some (.bool (h i))
theorem InB.below {w w' : World} {a : Option Addr} {n : Nat} {h : Nat → Bool} (hI : InB w a n h) (hb : Below w.heap.size w w') : InB w' a n h := fun i hi => by
  obtain ⟨b, off, ha, hl, hc⟩ := hI i hi
  exact ⟨b, off, ha, Nat.lt_of_lt_of_le hl hb.size, (hb.cell (p := ⟨b, off + i, none⟩) hl).trans hc⟩
theorem In.at {w : World} {a : Option Addr} {n : Nat} {L : Nat → ByteArray} (h : In w a n L) (h0 : 0 < n) : ∃ b o, a = some ⟨b, o, none⟩ ∧ b < w.heap.size ∧ ∀ i, i < n → w.cell? ⟨b, o + i, none⟩ = some (.string (L i)) := by
  obtain ⟨b, o, ha, hb, _⟩ := h 0 h0
  refine ⟨b, o, ha, hb, fun i hi => ?_⟩
  obtain ⟨b', o', ha', _, hc⟩ := h i hi
  rw [ha] at ha'
  simp at ha'
  rw [ha'.1, ha'.2]; exact hc
theorem InB.at {w : World} {a : Option Addr} {n : Nat} {L : Nat → Bool} (h : InB w a n L) (h0 : 0 < n) : ∃ b o, a = some ⟨b, o, none⟩ ∧ b < w.heap.size ∧ ∀ i, i < n → w.cell? ⟨b, o + i, none⟩ = some (.bool (L i)) := by
  obtain ⟨b, o, ha, hb, _⟩ := h 0 h0
  refine ⟨b, o, ha, hb, fun i hi => ?_⟩
  obtain ⟨b', o', ha', _, hc⟩ := h i hi
  rw [ha] at ha'
  simp at ha'
  rw [ha'.1, ha'.2]; exact hc
/-- the first number at which something is not -/
theorem first_not (P : Nat → Prop) [DecidablePred P] : ∀ n, (∀ i, i < n → P i) ∨ ∃ i, i < n ∧ ¬ P i ∧ ∀ j, j < i → P j
  | 0 => .inl (fun i hi => by omega)
  | n + 1 => by
    rcases first_not P n with h | ⟨i, hi, h1, h2⟩
    · by_cases e : P n
      · left; intro i hi
        by_cases e2 : i = n
        · subst e2; exact e
        · exact h i (by omega)
      · exact .inr ⟨n, by omega, e, h⟩
    · exact .inr ⟨i, by omega, h1, h2⟩
def Out.small : Out → Prop
  | .inl _ => True
  | .inr (n, _) => n ≤ 255
/-- EVERY PARITY: BOTH ANSWERS ARE ONE -/
theorem par_both (K M : Int) (n : Nat) (L : Nat → ByteArray) (hL : ∀ i, i < n → (L i).size ≤ 1048576) :
    ∃ o : Out, o.small ∧ (∀ W v, Lv W v n L → PGo o K M v W) ∧ (∀ W a c, In W a n L → PRef o K M (.slice a n c) W) := by
  rcases par_cases K M with ⟨i, h⟩ | ⟨k, m, rfl, rfl, hk1, hkm⟩
  · exact ⟨.bad 1 i, trivial, fun W v _ => par_params K M i v W h, fun W a c _ => pref_params K M i _ W h⟩
  by_cases hn : n = k
  · subst hn
    rcases first_not (fun i => (L i).size = (L 0).size) n with h | ⟨i, hi, h1, h2⟩
    · refine ⟨.good m (vl (fun i => i) (fun i => n + i) n (L 0).size L), by show m ≤ 255; omega, fun W v hv => ?_, fun W a c ha => ?_⟩
      · rcases hv with ⟨_, h0⟩ | ⟨b, cap, rfl, hb, hC⟩
        · omega
        · exact par_good L n m _ b cap W hk1 hkm (Nat.le_trans (hL 0 (by omega)) (by omega)) h hb hC
      · obtain ⟨b, o, rfl, hb, hC⟩ := ha.at (by omega)
        exact pref_good L n m _ b o c W hk1 hkm (Nat.le_trans (hL 0 (by omega)) (by omega)) h hb hC
    · refine ⟨.bad 4 i, trivial, fun W v hv => ?_, fun W a c ha => ?_⟩
      · rcases hv with ⟨_, h0⟩ | ⟨b, cap, rfl, hb, hC⟩
        · omega
        · exact par_big L n m b cap i W hk1 hkm hi h1 h2 hC
      · obtain ⟨b, o, rfl, hb, hC⟩ := ha.at (by omega)
        exact pref_big L n m b o c i W hk1 hkm hi h1 h2 hb hC
  · refine ⟨.bad 15 n, trivial, fun W v hv => ?_, fun W a c _ => pref_range k m n c a W hk1 hkm hn⟩
    rcases hv with ⟨rfl, rfl⟩ | ⟨b, cap, rfl, hb, hC⟩
    · exact par_range k m 0 0 none W hk1 hkm hn
    · exact par_range k m n cap _ W hk1 hkm hn
theorem res_good (S : Nat → ByteArray) (h : Nat → Bool) (k m c b cap b2 cap2 i0 : Nat) (w : World) (hk1 : 1 ≤ k) (hkm : k + m ≤ 255) (hc : c ≤ 140737488351232) (hi0 : i0 < k + m) (h1 : h i0 = true) (h2 : ∀ j, j < i0 → h j = false) (hS : ∀ i, i < k + m → h i = true → (S i).size = c) (hK : (knL h k (k + m)).length = k)
    (hb : b < w.heap.size) (hb2 : b2 < w.heap.size) (hC : Cl w b (k + m) (tI S)) (hB : Cl w b2 (k + m) (bI h)) :
    RGo (.good (k + m) (resT S (gt (knL h k (k + m))) k c)) k m (.slice (some ⟨b, 0, none⟩) (k + m) cap) (.slice (some ⟨b2, 0, none⟩) (k + m) cap2) w :=
  (vrestore_ok S h k m c b cap b2 cap2 i0 w hk1 hkm hc hi0 h1 h2 hS hK hb hb2 hC hB).mono fun _ _ ⟨g, e1, e2, e3, e4⟩ => ⟨_, _, e1, g, rfl, rfl, e2, e3.to (fun x hx => filled_ref S h k (k + m) c hkm hK hS x hx), e4⟩
theorem hsL_cnt (h : Nat → Bool) : ∀ n, (hsL h n).length = cnt h n
  | 0 => rfl
  | n + 1 => by
    rw [hsL, cnt]
    split
    · rw [List.length_append, hsL_cnt h n]; rfl
    · rw [hsL_cnt h n]; rfl
/-- EVERY RESTORE: BOTH ANSWERS ARE ONE -/
theorem res_both (K M : Int) (n nh : Nat) (L : Nat → ByteArray) (h : Nat → Bool) (hL : ∀ i, i < n → (L i).size ≤ 1048576) :
    ∃ o : Out, o.small ∧ (∀ W v vb, Lv W v n L → Lb W vb nh h → RGo o K M v vb W) ∧ (∀ W a c a2 c2, In W a n L → InB W a2 nh h → RRef o K M (.slice a n c) (.slice a2 nh c2) W) := by
  rcases par_cases K M with ⟨i, hp⟩ | ⟨k, m, rfl, rfl, hk1, hkm⟩
  · exact ⟨.bad 1 i, trivial, fun W v vb _ _ => res_params K M i v vb W hp, fun W a c a2 c2 _ _ => rref_params K M i _ _ W hp⟩
  by_cases hn : n = k + m
  case neg =>
    refine ⟨.bad 15 n, trivial, fun W v vb hv _ => ?_, fun W a c a2 c2 _ _ => rref_range k m n c a _ W hk1 hkm hn⟩
    rcases hv with ⟨rfl, rfl⟩ | ⟨b, cap, rfl, hb, hC⟩
    · exact res_range k m 0 0 none vb W hk1 hkm hn
    · exact res_range k m n cap _ vb W hk1 hkm hn
  by_cases hh : nh = k + m
  case neg =>
    refine ⟨.bad 15 nh, trivial, fun W v vb hv hvb => ?_, fun W a c a2 c2 _ _ => rref_range2 k m n c nh c2 a a2 W hk1 hkm hn hh⟩
    rcases hv with ⟨rfl, h0⟩ | ⟨b, cap, rfl, hb, hC⟩
    · omega
    rcases hvb with ⟨rfl, rfl⟩ | ⟨b2, cap2, rfl, hb2, hC2⟩
    · exact res_range2 k m n cap 0 0 _ none W hk1 hkm hn hh
    · exact res_range2 k m n cap nh cap2 _ _ W hk1 hkm hn hh
  have hnh : nh = n := by omega
  subst hnh
  clear hh
  by_cases hcn : 0 < cnt h nh
  case neg =>
    have hnone : ∀ j, j < nh → h j = false := fun j hj => by
      cases e : h j with
      | false => rfl
      | true => exact absurd (List.length_pos_of_mem (hsL_in h nh j hj e)) (by rw [hsL_cnt]; exact hcn)
    have hl : (hsL h nh).length = 0 := by rw [hsL_cnt]; omega
    have hk0 : (knL h k nh).length = 0 := by rw [knL_take, List.length_take, hl]; omega
    refine ⟨.bad 14 (0 : Nat), trivial, fun W v vb hv hvb => ?_, fun W a c a2 c2 ha ha2 => ?_⟩
    · rcases hv with ⟨rfl, h0⟩ | ⟨b, cap, rfl, hb, hC⟩
      · omega
      rcases hvb with ⟨rfl, h0⟩ | ⟨b2, cap2, rfl, hb2, hC2⟩
      · omega
      exact res_lost h k m nh b cap b2 cap2 0 W hk1 hkm hn (checkLengths_none h b nh cap b2 cap2 W (by omega) hnone hC2) hk0 (by omega) hb2 hC2
    · obtain ⟨b, o, rfl, hb, hC⟩ := ha.at (by omega)
      obtain ⟨b2, o2, rfl, hb2, hC2⟩ := ha2.at (by omega)
      exact rref_main _ L h k m nh nh b o c b2 o2 c2 0 W hk1 hkm hn (by omega) (Nat.le_refl _) (fun i hi e => by rw [hnone i hi] at e; cases e) (.inr (.inl ⟨rfl, 0, hl, by omega, rfl⟩)) hb hC hb2 hC2
  obtain ⟨i0, hi0, h1, h2⟩ := cnt_first h nh hcn
  have hin0 : i0 ∈ hsL h nh := hsL_in h nh i0 hi0 h1
  rcases first_not (fun i => h i = true → (L i).size = (L i0).size) nh with hS | ⟨i1, hi1, hb1, hS⟩
  · by_cases hlk : (hsL h nh).length < k
    · have hkl : (knL h k nh).length = (hsL h nh).length := by rw [knL_take, List.length_take]; omega
      refine ⟨.bad 14 ((hsL h nh).length : Nat), trivial, fun W v vb hv hvb => ?_, fun W a c a2 c2 ha ha2 => ?_⟩
      · rcases hv with ⟨rfl, h0⟩ | ⟨b, cap, rfl, hb, hC⟩
        · omega
        rcases hvb with ⟨rfl, h0⟩ | ⟨b2, cap2, rfl, hb2, hC2⟩
        · omega
        exact res_lost h k m nh b cap b2 cap2 _ W hk1 hkm hn (checkLengths_ok L h b nh cap b2 cap2 (L i0).size i0 W (by omega) hi0 h1 h2 hS hC hC2) hkl hlk hb2 hC2
      · obtain ⟨b, o, rfl, hb, hC⟩ := ha.at (by omega)
        obtain ⟨b2, o2, rfl, hb2, hC2⟩ := ha2.at (by omega)
        exact rref_main _ L h k m nh nh b o c b2 o2 c2 (L i0).size W hk1 hkm hn (Nat.le_trans (hL i0 hi0) (by omega)) (Nat.le_refl _) hS (.inr (.inl ⟨rfl, _, rfl, hlk, rfl⟩)) hb hC hb2 hC2
    · have hkl : (knL h k nh).length = k := by rw [knL_take, List.length_take]; omega
      refine ⟨.good nh (resT L (gt (knL h k nh)) k (L i0).size), by show nh ≤ 255; omega, fun W v vb hv hvb => ?_, fun W a c a2 c2 ha ha2 => ?_⟩
      · rcases hv with ⟨rfl, h0⟩ | ⟨b, cap, rfl, hb, hC⟩
        · omega
        rcases hvb with ⟨rfl, h0⟩ | ⟨b2, cap2, rfl, hb2, hC2⟩
        · omega
        subst hn
        exact res_good L h k m (L i0).size b cap b2 cap2 i0 W hk1 hkm (Nat.le_trans (hL i0 hi0) (by omega)) hi0 h1 h2 hS hkl hb hb2 hC hC2
      · obtain ⟨b, o, rfl, hb, hC⟩ := ha.at (by omega)
        obtain ⟨b2, o2, rfl, hb2, hC2⟩ := ha2.at (by omega)
        exact rref_main _ L h k m nh nh b o c b2 o2 c2 (L i0).size W hk1 hkm hn (Nat.le_trans (hL i0 hi0) (by omega)) (Nat.le_refl _) hS (.inr (.inr ⟨rfl, hkl, rfl⟩)) hb hC hb2 hC2
  · have hb2' : h i1 = true ∧ (L i1).size ≠ (L i0).size := by
      cases e : h i1 with
      | false => exact absurd (fun hc => by rw [e] at hc; cases hc) hb1
      | true => exact ⟨rfl, fun hc => hb1 (fun _ => hc)⟩
    have h01 : i0 < i1 := by
      rcases Nat.lt_or_ge i0 i1 with h' | h'
      · exact h'
      · exfalso
        by_cases e : i1 = i0
        · rw [e] at hb2'; exact hb2'.2 rfl
        · have := h2 i1 (by omega); rw [hb2'.1] at this; cases this
    refine ⟨.bad 4 i1, trivial, fun W v vb hv hvb => ?_, fun W a c a2 c2 ha ha2 => ?_⟩
    · rcases hv with ⟨rfl, h0⟩ | ⟨b, cap, rfl, hb, hC⟩
      · omega
      rcases hvb with ⟨rfl, h0⟩ | ⟨b2, cap2, rfl, hb2, hC2⟩
      · omega
      exact res_big L h k m nh b cap b2 cap2 i0 i1 W hk1 hkm hn hi0 h1 h2 hi1 hb2'.1 hb2'.2 hS hC hC2
    · obtain ⟨b, o, rfl, hb, hC⟩ := ha.at (by omega)
      obtain ⟨b2, o2, rfl, hb2, hC2⟩ := ha2.at (by omega)
      exact rref_main _ L h k m nh i1 b o c b2 o2 c2 (L i0).size W hk1 hkm hn (Nat.le_trans (hL i0 hi0) (by omega)) (by omega) hS (.inl ⟨rfl, hi1, hb2'.1, hb2'.2, List.length_pos_of_mem (hsL_in h i1 i0 h01 h1)⟩) hb hC hb2 hC2
/-- both answers, side by side -/
def LOut (o : Out) (base : Nat) (x y x2 y2 : Value) (w : World) : Prop := match o with
  | .inl (k, i) => x = .slice none 0 0 ∧ x2 = .slice none 0 0 ∧ (∃ g, y = .iface 94 (.pointer (some ⟨g, 0, none⟩)) ∧ w.heap[g]? = some (.cells #[.int .i64 k, .int .i64 i, .nilIface] 96 (0, 0))) ∧ ∃ g c, y2 = .slice (some ⟨g, 0, none⟩) 1 c ∧ w.cell? ⟨g, 0, none⟩ = some (.int .i64 k) ∧ w.cell? ⟨g, 1, none⟩ = some (.int .i64 i)
  | .inr (n, T) => (∃ g, x = .slice (some ⟨g, 0, none⟩) n n ∧ base ≤ g ∧ Rw w g n 9 (tI T)) ∧ y = .nilIface ∧ y2 = .slice none 0 0 ∧ ∃ b2, w.ownsRow b2 9 1 x2 n (tV T n)
theorem GoOut.bel {w w' : World} {o : Out} {x y : Value} (h : GoOut w o x y w') : Below w.heap.size w w' := by
  rcases o with ⟨k, i⟩ | ⟨n, T⟩
  · obtain ⟨g, _, _, _, _, hb⟩ := h; exact hb
  · obtain ⟨g, _, _, _, _, hb⟩ := h; exact hb
theorem RefOut.bel {w w' : World} {o : Out} {x y : Value} (h : RefOut w o x y w') : Below w.heap.size w w' := by
  rcases o with ⟨k, i⟩ | ⟨n, T⟩
  · obtain ⟨g, c, _, _, _, _, hb⟩ := h; exact hb
  · exact h.2.2
/-- the program's answer, in a later world -/
def GoHalf (o : Out) (base : Nat) (x y : Value) (w : World) : Prop := match o with
  | .inl (k, i) => x = .slice none 0 0 ∧ ∃ g, y = .iface 94 (.pointer (some ⟨g, 0, none⟩)) ∧ base ≤ g ∧ w.heap[g]? = some (.cells #[.int .i64 k, .int .i64 i, .nilIface] 96 (0, 0))
  | .inr (n, T) => y = .nilIface ∧ ∃ g, x = .slice (some ⟨g, 0, none⟩) n n ∧ base ≤ g ∧ Rw w g n 9 (tI T)
theorem GoOut.half {o : Out} {w w' : World} {x y : Value} (h : GoOut w o x y w') : GoHalf o w.heap.size x y w' := by
  rcases o with ⟨k, i⟩ | ⟨n, T⟩
  · obtain ⟨g, e1, e2, e3, e4, _⟩ := h; exact ⟨e1, g, e2, e3, e4⟩
  · obtain ⟨g, e1, e2, e3, e4, _⟩ := h; exact ⟨e2, g, e1, e3, e4⟩
theorem GoHalf.same {o : Out} {base : Nat} {w w' : World} {x y : Value} (h : GoHalf o base x y w) (hs : ∀ q, base ≤ q → w'.heap[q]? = w.heap[q]?) : GoHalf o base x y w' := by
  rcases o with ⟨k, i⟩ | ⟨n, T⟩
  · obtain ⟨e1, g, e2, e3, e4⟩ := h; exact ⟨e1, g, e2, e3, by rw [hs g e3]; exact e4⟩
  · obtain ⟨e1, g, e2, e3, e4⟩ := h; exact ⟨e1, g, e2, e3, by unfold Rw; rw [hs g e3]; exact e4⟩
theorem GoHalf.below {o : Out} {base : Nat} {w w' : World} {x y : Value} (h : GoHalf o base x y w) (hb : Below w.heap.size w w') : GoHalf o base x y w' := by
  rcases o with ⟨k, i⟩ | ⟨n, T⟩
  · obtain ⟨e1, g, e2, e3, e4⟩ := h; exact ⟨e1, g, e2, e3, by rw [hb.block g (Array.getElem?_eq_some_iff.1 e4).1]; exact e4⟩
  · obtain ⟨e1, g, e2, e3, e4⟩ := h; exact ⟨e1, g, e2, e3, e4.below hb e4.lt⟩
theorem GoHalf.mono {o : Out} {base b' : Nat} {w : World} {x y : Value} (h : GoHalf o base x y w) (hb : b' ≤ base) : GoHalf o b' x y w := by
  rcases o with ⟨k, i⟩ | ⟨n, T⟩
  · obtain ⟨e1, g, e2, e3, e4⟩ := h; exact ⟨e1, g, e2, Nat.le_trans hb e3, e4⟩
  · obtain ⟨e1, g, e2, e3, e4⟩ := h; exact ⟨e1, g, e2, Nat.le_trans hb e3, e4⟩
theorem LOut.of {o : Out} {base : Nat} {w w' : World} {x y x2 y2 : Value} (h1 : GoHalf o base x y w) (h2 : RefOut w o x2 y2 w') : LOut o base x y x2 y2 w' := by
  have h3 := h1.below h2.bel
  rcases o with ⟨k, i⟩ | ⟨n, T⟩
  · obtain ⟨e1, g, e2, e3, e4⟩ := h3
    obtain ⟨g2, c, f1, f2, f3, f4, f5⟩ := h2
    exact ⟨e1, f1, ⟨g, e2, e4⟩, g2, c, f2, f3, f4⟩
  · obtain ⟨e1, g, e2, e3, e4⟩ := h3
    obtain ⟨f1, f2, f3⟩ := h2
    exact ⟨⟨g, e2, e3, e4⟩, e1, f1, _, f2⟩
theorem LOut.below {o : Out} {base : Nat} {x y x2 y2 : Value} {w w' : World} (h : LOut o base x y x2 y2 w) (hb : Below w.heap.size w w') : LOut o base x y x2 y2 w' := by
  rcases o with ⟨k, i⟩ | ⟨n, T⟩
  · obtain ⟨e1, f1, ⟨g, e2, e3⟩, g2, c, f2, f3, f4⟩ := h
    have l1 := (Array.getElem?_eq_some_iff.1 e3).1
    have l2 := block_lt_of_cell f3
    exact ⟨e1, f1, ⟨g, e2, by rw [hb.block g l1]; exact e3⟩, g2, c, f2, (hb.cell (p := ⟨g2, 0, none⟩) l2).trans f3, (hb.cell (p := ⟨g2, 1, none⟩) l2).trans f4⟩
  · obtain ⟨⟨g, e1, e2, e3⟩, e4, f1, b2, f2⟩ := h
    exact ⟨⟨g, e1, e2, e3.below hb e3.lt⟩, e4, f1, b2, own_below f2 hb⟩
theorem same_out (o : Out) (base : Nat) (x y x2 y2 : Value) (w : World) (hs : o.small) (h : LOut o base x y x2 y2 w) :
    Calls Tryd.prog 12 #[x, x2] w fun e w' => e = .returned (.bool true) ∧ ∃ q, w' = w.drewN q := by
  rcases o with ⟨k, i⟩ | ⟨n, T⟩
  · obtain ⟨rfl, rfl, _, _⟩ := h; exact same_0 _ _ _ _ w
  · obtain ⟨⟨g, rfl, e2, e3⟩, e4, f1, b2, f2⟩ := h
    have hn : n ≤ 255 := hs
    rcases f2.2 with ⟨rfl, rfl⟩ | ⟨g2, cap, cur, rfl, hg, hh, rest⟩
    · exact same_0 _ _ _ _ w
    · exact same_any T T n g n g2 cap w (by omega) (fun i hi => e3.cell i hi) (fun i hi => by rw [f2.cellAt i (by omega)]; simp [tV, tI, hi]) (fun _ _ => rfl)
theorem told_out (o : Out) (base : Nat) (x y x2 y2 : Value) (w : World) (hg : w.cell? ⟨0, 0, none⟩ = some (.iface 128 (.agg #[.pointer (some ⟨1, 40, none⟩)]))) (h : LOut o base x y x2 y2 w) :
    Calls Tryd.prog 13 #[y, y2] w fun e w' => e = .returned (.bool true) ∧ Below w.heap.size w w' := by
  rcases o with ⟨k, i⟩ | ⟨n, T⟩
  · obtain ⟨_, _, ⟨g, rfl, e3⟩, g2, c, rfl, f3, f4⟩ := h; exact told_one k i g g2 c w hg e3 f3 f4
  · obtain ⟨_, rfl, rfl, _⟩ := h; exact told_none w
theorem keep_out (o : Out) (X : List En) (B n base : Nat) (v x y x2 y2 : Value) (w0 w : World) (hs : o.small) (hbB : base ≤ B) (hgw : base ≤ w0.heap.size) (hw : w0.heap.size ≤ w.heap.size)
    (hB : w.heap[B]? = some (.cells #[.int .i64 n, v, .slice none 0 0, .slice none 0 0, .slice none 0 0] 29 (0, 0)))
    (hn : n ≤ 1000000000) (hXl : X.length ≤ 1000000000) (hv : w.ownsRow base 54 5 v X.length (flat X)) (hK0 : Kp w0 w) (h : LOut o w0.heap.size x y x2 y2 w) :
    Calls Tryd.prog 14 #[.pointer (some ⟨B, 0, none⟩), x] w fun e w' => e = .returned (.tuple #[]) ∧ ∃ v' z, w'.heap[B]? = some (.cells #[.int .i64 (n + 1 : Nat), v', .slice none 0 0, .slice none 0 0, .slice none 0 0] 29 (0, 0)) ∧ w'.ownsRow base 54 5 v' (X.length + 1) (flat (X ++ [z])) ∧ z.ok w' ∧ Kp w0 w' ∧ Below base w w' := by
  rcases o with ⟨k, i⟩ | ⟨m, T⟩
  · obtain ⟨rfl, _⟩ := h
    exact (keep_any X B n base v none w0.heap.size 0 (fun _ => .string ⟨#[]⟩) w0 w hbB hgw (Nat.le_refl _) (Nat.le_trans hgw hw) hB hn hXl hv hK0 (.inl ⟨rfl, rfl⟩) (by omega)).mono fun e w' ⟨r, v', z, k1, k2, k3, k4, _, k6⟩ => ⟨r, v', z, k1, k2, k3, k4, k6⟩
  · obtain ⟨⟨g, rfl, e2, e3⟩, _⟩ := h
    have hm : m ≤ 255 := hs
    exact (keep_any X B n base v (some ⟨g, 0, none⟩) g m (tI T) w0 w hbB (Nat.le_trans hgw e2) e2 (Nat.le_trans hgw hw) hB hn hXl hv hK0 (.inr ⟨rfl, e3⟩) (by omega)).mono fun e w' ⟨r, v', z, k1, k2, k3, k4, _, k6⟩ => ⟨r, v', z, k1, k2, k3, k4, k6⟩
end Go.Proofs.YtbjgchlckmecaaaDoor
