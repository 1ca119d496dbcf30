/-
  The walks of proof.labels, proof.texts, tree.Climb.
-/
import Derived.Test.YtnghgdficnkbbaaDoorU3
namespace Go.Proofs.YtnghgdficnkbbaaDoor
open Go.RowKit
/-- a list of texts that may be nil -/
def Ls (w : World) (v : Value) (n : Nat) (L : Nat → ByteArray) : Prop := (v = .slice none 0 0 ∧ n = 0) ∨ ∃ b cap, v = .slice (some ⟨b, 0, none⟩) n cap ∧ b < w.heap.size ∧ Cl w b n (tI L)
theorem Ls.below {w w' : World} {v : Value} {n : Nat} {L : Nat → ByteArray} (h : Ls w v n L) (hb : Below w.heap.size w w') : Ls w' v n L := by
  rcases h with h | ⟨b, cap, h1, h2, h3⟩
  · exact .inl h
  · exact .inr ⟨b, cap, h1, Nat.lt_of_lt_of_le h2 hb.size, h3.below hb h2⟩
set_option maxHeartbeats 400000 in
theorem labels_some (L : Nat → ByteArray) (b n cap : Nat) (w : World) (hn : n ≤ 4398046511104) (hb0 : b < w.heap.size) (hc : Cl w b n (tI L)) :
    Calls Tryd.prog 22 #[.slice (some ⟨b, 0, none⟩) n cap] w fun e w' => e = .returned (.slice (some ⟨w.heap.size, 0, none⟩) n n) ∧ Rw w' w.heap.size n 42 (tI L) ∧ Below w.heap.size w w' := by
  have HC : Hid _ := hc
  clear hc
  have hmk := run_make_row' (P := Tryd.prog) 43 42 (.string ⟨#[]⟩) 16 Tryd.underlying43 info42 rfl .i64 .i64 n (by omega) (by omega)
  go_enter Tryd.func22, Tryd.ntmps22
  go_wp2
  go_loopw [11] (fun i wr => ∃ k : Nat, k ≤ n ∧ i = .int .i64 k ∧ Below w.heap.size w wr ∧ Rw wr w.heap.size n 42 (part' k (tI L) (.string ⟨#[]⟩))) (fun i _ => n - (intOf i).toNat)
  case atStart => exact ⟨0, by omega, rfl, (Below.refl _ _).alloc (Nat.le_refl _) _, (Rw.made w n 42 (.string ⟨#[]⟩)).to (fun j _ => (part_0 _ _ j).symm)⟩
  case round =>
    obtain ⟨k, hk, rfl, hb, hR⟩ := hrel
    by_cases hlt : k < n
    · have c1 := hR.cell k hlt
      have c2 := hR.free k
      have c3 : wr.cell? ⟨b, k, none⟩ = some (.string (L k)) := Cl.below HC.out hb hb0 k hlt
      go_wp2
      go_roundw
      case rel => exact ⟨k + 1, by omega, by go_num, hb.setCell (Nat.le_refl _) _, (hR.put k _).to (fun j _ => by rw [← part_step]; rfl)⟩
      case measure => simp [intOf]; omega
    · have e : k = n := by omega
      subst e
      go_wp2
      go_ret
      exact ⟨rfl, hR.to (fun j hj => by simp [part', hj]), hb⟩
set_option maxHeartbeats 400000 in
theorem labels_nil (w : World) :
    Calls Tryd.prog 22 #[.slice none 0 0] w fun e w' => e = .returned (.slice (some ⟨w.heap.size, 0, none⟩) 0 0) ∧ Rw w' w.heap.size 0 42 (tI fun _ => ⟨#[]⟩) ∧ Below w.heap.size w w' := by
  have hmk : ∀ w : World, (Instr.makeSlice 43 (.int .i64 0) (.int .i64 0)).run Tryd.prog w = .ok (.slice (some ⟨w.heap.size, 0, none⟩) 0 0) (w.alloc (.cells (madeCells #[.string ⟨#[]⟩] 0) 42)) := run_make_row' (P := Tryd.prog) 43 42 (.string ⟨#[]⟩) 16 Tryd.underlying43 info42 rfl .i64 .i64 0 (by omega) (by omega)
  go_enter Tryd.func22, Tryd.ntmps22
  go_wp2
  refine wp_loop_rounds 1 ?_
  rw [rounds_succ]
  go_wp2
  go_ret
  exact ⟨rfl, Rw.made w 0 42 (.string ⟨#[]⟩), (Below.refl _ _).alloc (Nat.le_refl _) _⟩
theorem labels_any (L : Nat → ByteArray) (n : Nat) (v : Value) (w : World) (hn : n ≤ 4398046511104) (h : Ls w v n L) :
    Calls Tryd.prog 22 #[v] w fun e w' => e = .returned (.slice (some ⟨w.heap.size, 0, none⟩) n n) ∧ Rw w' w.heap.size n 42 (tI L) ∧ Below w.heap.size w w' := by
  rcases h with ⟨rfl, rfl⟩ | ⟨b, cap, rfl, hb, hc⟩
  · exact (labels_nil w).mono fun e w' h => ⟨h.1, h.2.1.to (fun j hj => by omega), h.2.2⟩
  · exact labels_some L b n cap w hn hb hc
set_option maxHeartbeats 400000 in
theorem texts_some (L : Nat → ByteArray) (b n cap : Nat) (w : World) (hn : n ≤ 4398046511104) (hL : ∀ i, i < n → (L i).size ≤ 140737488351232) (hb0 : b < w.heap.size) (hc : Cl w b n (tI L)) :
    Calls Tryd.prog 26 #[.slice (some ⟨b, 0, none⟩) n cap] w fun e w' => e = .returned (.slice (some ⟨w.heap.size, 0, none⟩) n n) ∧ Rw w' w.heap.size n 9 (tI L) ∧ Below w.heap.size w w' := by
  have HC : Hid _ := hc
  have HL : Hid _ := hL
  clear hc hL
  have hmk := run_make_row' (P := Tryd.prog) 22 9 (.string ⟨#[]⟩) 16 Tryd.underlying22 info9 rfl .i64 .i64 n (by omega) (by omega)
  go_enter Tryd.func26, Tryd.ntmps26
  go_wp2
  go_loopw [11] (fun i wr => ∃ k : Nat, k ≤ n ∧ i = .int .i64 k ∧ Below w.heap.size w wr ∧ Rw wr w.heap.size n 9 (part' k (tI L) (.string ⟨#[]⟩))) (fun i _ => n - (intOf i).toNat)
  case atStart => exact ⟨0, by omega, rfl, (Below.refl _ _).alloc (Nat.le_refl _) _, (Rw.made w n 9 (.string ⟨#[]⟩)).to (fun j _ => (part_0 _ _ j).symm)⟩
  case round =>
    obtain ⟨k, hk, rfl, hb, hR⟩ := hrel
    by_cases hlt : k < n
    · have c3 : wr.cell? ⟨b, k, none⟩ = some (.string (L k)) := Cl.below HC.out hb hb0 k hlt
      have HB : Hid _ := hb
      have HR : Hid (Rw wr w.heap.size n 9 (part' k (tI L) (.string ⟨#[]⟩))) := hR
      clear hb hR
      go_wp2_with fail
      refine (sclone_any (L k) _ (HL.out k hlt)).mono ?_
      rintro e w2 ⟨rfl, hB2⟩
      have hR2 := HR.out.below hB2 HR.out.lt
      have hB : Below w.heap.size w w2 := HB.out.trans (hB2.mono HB.out.size)
      have c1 := hR2.cell k hlt
      have c2 := hR2.free k
      clear hB2 c3
      go_wp2
      go_roundw
      case rel => exact ⟨k + 1, by omega, by go_num, hB.setCell (Nat.le_refl _) _, (hR2.put k _).to (fun j _ => by rw [← part_step]; rfl)⟩
      case measure => simp [intOf]; omega
    · have e : k = n := by omega
      subst e
      go_wp2
      go_ret
      exact ⟨rfl, hR.to (fun j hj => by simp [part', hj]), hb⟩
set_option maxHeartbeats 400000 in
theorem texts_nil (w : World) :
    Calls Tryd.prog 26 #[.slice none 0 0] w fun e w' => e = .returned (.slice (some ⟨w.heap.size, 0, none⟩) 0 0) ∧ Rw w' w.heap.size 0 9 (tI fun _ => ⟨#[]⟩) ∧ Below w.heap.size w w' := by
  have hmk : ∀ w : World, (Instr.makeSlice 22 (.int .i64 0) (.int .i64 0)).run Tryd.prog w = .ok (.slice (some ⟨w.heap.size, 0, none⟩) 0 0) (w.alloc (.cells (madeCells #[.string ⟨#[]⟩] 0) 9)) := run_make_row' (P := Tryd.prog) 22 9 (.string ⟨#[]⟩) 16 Tryd.underlying22 info9 rfl .i64 .i64 0 (by omega) (by omega)
  go_enter Tryd.func26, Tryd.ntmps26
  go_wp2
  refine wp_loop_rounds 1 ?_
  rw [rounds_succ]
  go_wp2
  go_ret
  exact ⟨rfl, Rw.made w 0 9 (.string ⟨#[]⟩), (Below.refl _ _).alloc (Nat.le_refl _) _⟩
theorem texts_any (L : Nat → ByteArray) (n : Nat) (v : Value) (w : World) (hn : n ≤ 4398046511104) (hL : ∀ i, i < n → (L i).size ≤ 140737488351232) (h : Ls w v n L) :
    Calls Tryd.prog 26 #[v] w fun e w' => e = .returned (.slice (some ⟨w.heap.size, 0, none⟩) n n) ∧ Rw w' w.heap.size n 9 (tI L) ∧ Below w.heap.size w w' := by
  rcases h with ⟨rfl, rfl⟩ | ⟨b, cap, rfl, hb, hc⟩
  · exact (texts_nil w).mono fun e w' h => ⟨h.1, h.2.1.to (fun j hj => by omega), h.2.2⟩
  · exact texts_some L b n cap w hn hL hb hc
set_option maxHeartbeats 400000 in
theorem climb_out (n i : Int) (leaf : ByteArray) (v : Value) (w : World) (h : i < 0 ∨ n ≤ i) :
    Calls Tryd.prog 28 #[.int .i64 n, .int .i64 i, .string leaf, v] w fun e w' => e = .returned (.tuple #[.string ⟨#[]⟩, .bool false]) ∧ Below w.heap.size w w' := by
  rcases h with h | h
  · go_enter Tryd.func28, Tryd.ntmps28
    go_wp2
    go_ret2
    exact ⟨rfl, Below.refl _ _⟩
  · by_cases h0 : i < 0
    · go_enter Tryd.func28, Tryd.ntmps28
      go_wp2
      go_ret2
      exact ⟨rfl, Below.refl _ _⟩
    · go_enter Tryd.func28, Tryd.ntmps28
      go_wp2
      go_ret2
      exact ⟨rfl, Below.refl _ _⟩
set_option maxHeartbeats 400000 in
theorem climb_len (n i m b cap : Nat) (leaf : ByteArray) (w : World) (hi : i < n) (hn : n < 9223372036854775808) (hm : m ≠ (sidesT n i).length) :
    Calls Tryd.prog 28 #[.int .i64 n, .int .i64 i, .string leaf, .slice (some ⟨b, 0, none⟩) m cap] w fun e w' => e = .returned (.tuple #[.string ⟨#[]⟩, .bool false]) ∧ Below w.heap.size w w' := by
  have H : Hid _ := sides_any n i w hi hn
  obtain ⟨S, hS⟩ : ∃ S, sidesT n i = S := ⟨_, rfl⟩
  rw [hS] at H hm
  clear hS
  go_enter Tryd.func28, Tryd.ntmps28
  go_wp2_with fail
  refine Calls.mono H.out ?_
  rintro e w1 ⟨u, rfl, ho, hB⟩
  obtain ⟨a1, cap1, hu⟩ := own_shape ho
  subst hu
  have hne : (((m : Int) != (S.length : Int))) = true := by simp; omega
  clear ho
  go_wp2
  go_ret2
  exact ⟨rfl, hB⟩
/-- the climb's first k steps -/
def clN (D : ByteArray → ByteArray) (leaf : ByteArray) (S : List Bool) (P : Nat → ByteArray) : Nat → ByteArray
  | 0 => leaf
  | k + 1 => jnS D (clN D leaf S P k) (S.getD k false, P k)
theorem clN_le (D : ByteArray → ByteArray) (leaf : ByteArray) (S : List Bool) (P : Nat → ByteArray) (c : Nat) (hl : leaf.size ≤ c) (hD : ∀ s, (D s).size ≤ c) : ∀ k, (clN D leaf S P k).size ≤ c
  | 0 => hl
  | k + 1 => by rw [clN, jnS]; split <;> exact hD _
def lst (F : Nat → ByteArray) (n : Nat) : List ByteArray := (List.range n).map F
theorem lst_len (F : Nat → ByteArray) (n : Nat) : (lst F n).length = n := by simp [lst]
theorem lst_succ (F : Nat → ByteArray) (n : Nat) : lst F (n + 1) = lst F n ++ [F n] := by simp [lst, List.range_succ]
theorem clN_take (D : ByteArray → ByteArray) (leaf : ByteArray) (S : List Bool) (P : Nat → ByteArray) : ∀ k, k ≤ S.length → clN D leaf S P k = climbT D leaf (S.take k) (lst P k)
  | 0, _ => rfl
  | k + 1, h => by
    have hk : k < S.length := by omega
    have e : S.take (k + 1) = S.take k ++ [S.getD k false] := by
      rw [List.take_add_one, List.getD_eq_getElem?_getD, List.getElem?_eq_getElem hk]
      rfl
    rw [clN, e, lst_succ, climb_snoc _ _ _ _ _ _ (by rw [List.length_take, lst_len]; omega), clN_take D leaf S P k (by omega)]
theorem clN_all (D : ByteArray → ByteArray) (leaf : ByteArray) (S : List Bool) (P : Nat → ByteArray) : clN D leaf S P S.length = climbT D leaf S (lst P S.length) := by
  rw [clN_take _ _ _ _ _ (Nat.le_refl _), List.take_length]
theorem own_bools {w : World} {B n : Nat} {v : Value} {L : List Bool} (h : w.ownsRow B 4 1 v n (L.map Value.bool)) (h0 : 0 < n) (hL : L.length = n) :
    ∃ g cap, v = .slice (some ⟨g, 0, none⟩) n cap ∧ B ≤ g ∧ g < w.heap.size ∧ ∀ i, i < n → w.cell? ⟨g, i, none⟩ = some (.bool (L.getD i false)) := by
  rcases h.2 with ⟨_, h'⟩ | ⟨g, cap, cur, hv, hb, hh, _⟩
  · omega
  · subst hv
    refine ⟨g, cap, rfl, hb, (Array.getElem?_eq_some_iff.1 hh).1, fun i hi => ?_⟩
    rw [h.cellAt i (by omega)]
    have hi' : i < L.length := by omega
    simp [hi']
set_option maxHeartbeats 1000000 in
theorem climb_any (kt : Nat → Int) (P : Nat → ByteArray) (n i m b cap : Nat) (leaf : ByteArray) (w : World) (hi : i < n) (hn : n < 9223372036854775808) (hm : m = (sidesT n i).length) (hG : Gd kt w) (hb : b < w.heap.size) (hl : leaf.size ≤ 35184372088832) (hP : ∀ i, i < m → (P i).size ≤ 35184372088832) (hC : Cl w b m (tI P)) :
    Calls Tryd.prog 28 #[.int .i64 n, .int .i64 i, .string leaf, .slice (some ⟨b, 0, none⟩) m cap] w fun e w' => e = .returned (.tuple #[.string (climbT (ofT kt) leaf (sidesT n i) (lst P m)), .bool true]) ∧ Below w.heap.size w w' := by
  have H : Hid _ := sides_any n i w hi hn
  have hm63 := sides_lt 63 n i (by omega)
  obtain ⟨S, hS⟩ : ∃ S, sidesT n i = S := ⟨_, rfl⟩
  rw [hS] at H hm hm63 ⊢
  rw [← hm] at hm63
  have HE : Hid (climbT (ofT kt) leaf S (lst P m) = clN (ofT kt) leaf S P m) := by show climbT (ofT kt) leaf S (lst P m) = clN (ofT kt) leaf S P m; rw [hm, clN_all]
  have HS : Hid (∀ k, (clN (ofT kt) leaf S P k).size ≤ 35184372088832) := clN_le _ _ _ _ _ hl (ofT_le kt)
  have HP : Hid _ := hP
  have HC : Hid (Cl w b m (tI P)) := hC
  have HG : Hid _ := hG
  have HM : Hid _ := hm
  have hne : (((m : Int) != (S.length : Int))) = false := by simp; omega
  have hj := m_join
  have hd0 : decide ((i : Int) < 0) = false := by simp
  clear hS hP hC hG hl
  by_cases h0 : m = 0
  · obtain rfl : S = [] := List.eq_nil_of_length_eq_zero (by omega)
    subst h0
    clear hm hne HM
    go_enter Tryd.func28, Tryd.ntmps28
    go_wp2_with fail
    refine Calls.mono H.out ?_
    rintro e w1 ⟨u, rfl, ho, hB⟩
    obtain ⟨a1, cap1, hu⟩ := own_shape ho
    subst hu
    clear ho
    go_wp2
    refine wp_loop_rounds 1 ?_
    rw [rounds_succ]
    go_wp2
    go_ret2
    rw [HE.out]
    exact ⟨rfl, hB⟩
  · clear hm
    go_enter Tryd.func28, Tryd.ntmps28
    go_wp2_with fail
    refine Calls.mono H.out ?_
    rintro e w1 ⟨u, rfl, ho, hB⟩
    rw [← HM.out] at ho
    obtain ⟨g, cap1, hu, hg1, hg2, hgc⟩ := own_bools ho (by omega) HM.out.symm
    subst hu
    have HGC : Hid _ := hgc
    have HB : Hid _ := hB
    clear ho hgc hB
    go_wp2
    go_loopw [33, 8] (fun kv tv wr => ∃ k : Nat, k ≤ m ∧ kv = .int .i64 k ∧ tv = .string (clN (ofT kt) leaf S P k) ∧ Below w1.heap.size w1 wr) (fun kv _ _ => m - (intOf kv).toNat)
    case atStart => exact ⟨0, by omega, rfl, rfl, Below.refl _ _⟩
    case round =>
      obtain ⟨k, hk, rfl, rfl, hbr⟩ := hrel
      have HBR : Hid _ := hbr
      have HBW : Hid (Below w.heap.size w wr) := HB.out.trans (hbr.mono HB.out.size)
      clear hbr
      by_cases hlt : k < m
      · have c1 : wr.cell? ⟨b, k, none⟩ = some (.string (P k)) := Cl.below HC.out HBW.out hb k hlt
        have c2 : wr.cell? ⟨g, k, none⟩ = some (.bool (S.getD k false)) := (HBR.out.cell (p := ⟨g, k, none⟩) hg2).trans (HGC.out k hlt)
        have s1 := HS.out k
        have s2 := HP.out k hlt
        obtain ⟨x, hx⟩ : ∃ x, S.getD k false = x := ⟨_, rfl⟩
        have HN : Hid (clN (ofT kt) leaf S P (k + 1) = jnS (ofT kt) (clN (ofT kt) leaf S P k) (x, P k)) := by show clN (ofT kt) leaf S P (k + 1) = _; rw [clN, hx]
        obtain ⟨T, hT⟩ : ∃ T, clN (ofT kt) leaf S P k = T := ⟨_, rfl⟩
        rw [hx] at c2
        rw [hT] at s1 HN ⊢
        clear hx hT
        cases x with
        | true =>
          go_wp2_with fail
          refine (join_any kt (P k) T _ s2 s1 (HG.out.below HBW.out)).mono ?_
          rintro e w2 ⟨rfl, hB2⟩
          go_wp2
          go_roundw
          case rel => exact ⟨k + 1, by omega, by go_num, by rw [HN.out]; rfl, HBR.out.trans (hB2.mono HBR.out.size)⟩
          case measure => simp [intOf]; omega
        | false =>
          go_wp2_with fail
          refine (join_any kt T (P k) _ s1 s2 (HG.out.below HBW.out)).mono ?_
          rintro e w2 ⟨rfl, hB2⟩
          go_wp2
          go_roundw
          case rel => exact ⟨k + 1, by omega, by go_num, by rw [HN.out]; rfl, HBR.out.trans (hB2.mono HBR.out.size)⟩
          case measure => simp [intOf]; omega
      · have e : k = m := by omega
        subst e
        go_wp2
        go_ret2
        rw [HE.out]
        exact ⟨rfl, HBW.out⟩
end Go.Proofs.YtnghgdficnkbbaaDoor
