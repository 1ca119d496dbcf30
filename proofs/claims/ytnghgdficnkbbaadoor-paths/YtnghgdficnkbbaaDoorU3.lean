/-
  The walks of tree.sides, Tree.Path.
-/
import Derived.Test.YtnghgdficnkbbaaDoorU2
namespace Go.Proofs.YtnghgdficnkbbaaDoor
open Go.RowKit
theorem own_below {w w' : World} {base : Nat} {e : TypeId} {size : Nat} {v : Value} {n : Nat} {xs : List Value} (h : w.ownsRow base e size v n xs) (hb : Below w.heap.size w w') : w'.ownsRow base e size v n xs := by
  refine ⟨h.1, ?_⟩
  rcases h.2 with h2 | ⟨g, cap, cur, hv, hg, hh, rest⟩
  · exact .inl h2
  · exact .inr ⟨g, cap, cur, hv, hg, by rw [hb.block g (Array.getElem?_eq_some_iff.1 hh).1]; exact hh, rest⟩
theorem own_lt {w : World} {base : Nat} {e : TypeId} {size : Nat} {v : Value} {n : Nat} {xs : List Value} (h : w.ownsRow base e size v n xs) : ∀ g, v.ownBlock = some g → base ≤ g ∧ g < w.heap.size := by
  intro g hg
  rcases h.2 with ⟨h', _⟩ | ⟨g', cap', cur, h', hb, hh, _⟩
  · rw [h'] at hg; simp [Value.ownBlock] at hg
  · rw [h'] at hg; simp [Value.ownBlock] at hg
    subst hg
    exact ⟨hb, (Array.getElem?_eq_some_iff.1 hh).1⟩
theorem own_shape {w : World} {base : Nat} {e : TypeId} {size : Nat} {v : Value} {n : Nat} {xs : List Value} (h : w.ownsRow base e size v n xs) : ∃ a cap, v = .slice a n cap := by
  rcases h.2 with ⟨h', h0⟩ | ⟨g', cap', cur, h', _⟩
  · exact ⟨none, 0, by rw [h', h0]⟩
  · exact ⟨_, _, h'⟩
theorem info4 : (Tryd.prog.info? 4).map (fun i => (i.zero, i.size, i.bytes)) = some (some (.bool false), 1, 1) := by kernel_rfl
theorem info42 : (Tryd.prog.info? 42).map (fun i => (i.zero, i.size, i.bytes)) = some (some (.string ⟨#[]⟩), 1, 16) := by kernel_rfl
theorem bool_one (t : Bool) : ∀ u ∈ [Value.bool t], u.oneCell' = true := by
  intro u hu; simp at hu; subst hu; rfl
theorem str_one (t : ByteArray) : ∀ u ∈ [Value.string t], u.oneCell' = true := by
  intro u hu; simp at hu; subst hu; rfl
set_option maxHeartbeats 1000000 in
theorem sides_any : ∀ (n i : Nat) (w : World), i < n → n < 9223372036854775808 →
    Calls Tryd.prog 34 #[.int .i64 n, .int .i64 i] w fun e w' => ∃ v, e = .returned v ∧ w'.ownsRow w.heap.size 4 1 v (sidesT n i).length ((sidesT n i).map Value.bool) ∧ Below w.heap.size w w' := by
  intro n
  induction n using Nat.strongRecOn with
  | ind n ih =>
  intro i w hi hn
  by_cases h1 : n = 1
  · subst h1
    rw [sidesT_1 1 i (by omega)]
    clear ih
    go_enter Tryd.func34, Tryd.ntmps34
    go_wp2
    go_ret
    exact ⟨_, rfl, World.ownsRow_nil _ _ _ _, Below.refl _ _⟩
  · have h2 : 2 ≤ n := by omega
    have e1 := hf_lt n h2
    have e2 := hf_pos n
    have HH : Hid _ := fun W => leftSize_any n W h2 hn
    obtain ⟨i0, hi0, hz0, hz1, hz2⟩ := info_parts info4
    by_cases hlo : i < hf n
    · rw [sidesT_lo n i h2 hlo]
      have H1 : Hid _ := fun W => ih (hf n) e1 i W hlo (by omega)
      have hlen := sides_lt 63 (hf n) i (by omega)
      obtain ⟨S, hS⟩ : ∃ S, sidesT (hf n) i = S := ⟨_, rfl⟩
      rw [hS] at H1 hlen ⊢
      obtain ⟨m, hm2⟩ : ∃ m, hf n = m := ⟨_, rfl⟩
      rw [hm2] at e1 e2 HH H1 hlo
      clear ih hS hm2
      go_enter Tryd.func34, Tryd.ntmps34
      go_wp2_with fail
      refine Calls.mono (HH.out _) ?_
      rintro e w1 ⟨rfl, rfl⟩
      go_wp2_with fail
      refine Calls.mono (H1.out _) ?_
      rintro e w2 ⟨v, rfl, ho, hB⟩
      obtain ⟨a1, cap1, hu⟩ := own_shape ho
      subst hu
      have hB' : w1.heap.size ≤ (w2.alloc (Obj.cells #[Value.bool false] 4)).heap.size := by have := hB.size; simp; omega
      go_wp2_with (at_builtin; refine wpList_append_own_at _ rfl (.tmp 15) (.tmp 16) 64 rfl w1.heap.size 4 i0 (.bool false) 1 1 Tryd.underlying64 hi0 hz0 hz1 hz2 rfl (by decide) _ S.length (S.map Value.bool) rfl (ho.alloc _) ⟨w2.heap.size, 0, none⟩ 1 1 [.bool false] rfl rfl (cell_one_new _ _ _) (bool_one _) ?kb ?kc hB' ?_)
      case kb => unfold maxLen; omega
      case kc => omega
      intro v' w' hown' hgrow _ _
      have hbl' : Below w1.heap.size w1 w' := (hB.alloc hB.size _).grown hgrow hB' (fun g hg => (own_lt ho g hg).1)
      have ho' : w'.ownsRow w1.heap.size 4 1 v' (S ++ [false]).length ((S ++ [false]).map Value.bool) := by simpa using hown'
      clear hown' hgrow ho hB hB'
      go_wp2
      go_ret
      exact ⟨_, rfl, ho', hbl'⟩
    · rw [sidesT_hi n i h2 hlo]
      have H1 : Hid _ := fun W => ih (n - hf n) (by omega) (i - hf n) W (by omega) (by omega)
      have hlen := sides_lt 63 (n - hf n) (i - hf n) (by omega)
      obtain ⟨S, hS⟩ : ∃ S, sidesT (n - hf n) (i - hf n) = S := ⟨_, rfl⟩
      rw [hS] at H1 hlen ⊢
      obtain ⟨m, hm2⟩ : ∃ m, hf n = m := ⟨_, rfl⟩
      rw [hm2] at e1 e2 HH H1 hlo
      clear ih hS hm2
      obtain ⟨n', rfl⟩ : ∃ n', n = m + n' := ⟨n - m, by omega⟩
      obtain ⟨i', rfl⟩ : ∃ i', i = m + i' := ⟨i - m, by omega⟩
      rw [show m + n' - m = n' by omega, show m + i' - m = i' by omega] at H1
      go_enter Tryd.func34, Tryd.ntmps34
      go_wp2_with fail
      refine Calls.mono (HH.out _) ?_
      rintro e w1 ⟨rfl, rfl⟩
      go_wp2_with fail
      rw [show ((m : Int) + (n' : Int) - (m : Int)) = (n' : Int) by omega, show ((m : Int) + (i' : Int) - (m : Int)) = (i' : Int) by omega]
      refine Calls.mono (H1.out _) ?_
      rintro e w2 ⟨v, rfl, ho, hB⟩
      obtain ⟨a1, cap1, hu⟩ := own_shape ho
      subst hu
      have hB' : w1.heap.size ≤ (w2.alloc (Obj.cells #[Value.bool true] 4)).heap.size := by have := hB.size; simp; omega
      go_wp2_with (at_builtin; refine wpList_append_own_at _ rfl (.tmp 24) (.tmp 25) 64 rfl w1.heap.size 4 i0 (.bool false) 1 1 Tryd.underlying64 hi0 hz0 hz1 hz2 rfl (by decide) _ S.length (S.map Value.bool) rfl (ho.alloc _) ⟨w2.heap.size, 0, none⟩ 1 1 [.bool true] rfl rfl (cell_one_new _ _ _) (bool_one _) ?kb ?kc hB' ?_)
      case kb => unfold maxLen; omega
      case kc => omega
      intro v' w' hown' hgrow _ _
      have hbl' : Below w1.heap.size w1 w' := (hB.alloc hB.size _).grown hgrow hB' (fun g hg => (own_lt ho g hg).1)
      have ho' : w'.ownsRow w1.heap.size 4 1 v' (S ++ [true]).length ((S ++ [true]).map Value.bool) := by simpa using hown'
      clear hown' hgrow ho hB hB'
      go_wp2
      go_ret
      exact ⟨_, rfl, ho', hbl'⟩
set_option maxHeartbeats 2000000 in
theorem tpath_any (kt : Nat → Int) : ∀ (n : Nat) (L : Nat → ByteArray) (i b o cap : Nat) (w : World), i < n → n ≤ cap → cap < 9223372036854775808 → Gd kt w → b < w.heap.size → (∀ i, i < n → (L i).size ≤ 35184372088832) → Co w b o n (tI L) →
    Calls Tryd.prog 27 #[.slice (some ⟨b, o, none⟩) n cap, .int .i64 i] w fun e w' => ∃ v, e = .returned v ∧ w'.ownsRow w.heap.size 42 1 v (pathT (ofT kt) n L i).length ((pathT (ofT kt) n L i).map Value.string) ∧ Below w.heap.size w w' := by
  intro n
  induction n using Nat.strongRecOn with
  | ind n ih =>
  intro L i b o cap w hi hn hc hG hb hL hC
  by_cases h1 : n = 1
  · subst h1
    rw [pathT_1 _ 1 L i (by omega)]
    clear ih hL hC hG
    go_enter Tryd.func27, Tryd.ntmps27
    go_wp2
    go_ret
    exact ⟨_, rfl, World.ownsRow_nil _ _ _ _, Below.refl _ _⟩
  · have h2 : 2 ≤ n := by omega
    have e1 := hf_lt n h2
    have e2 := hf_pos n
    have HH : Hid _ := halves_any b o n cap w h2 hn hc
    have HL : Hid _ := hL
    have HC : Hid (Co w b o n (tI L)) := hC
    have HG : Hid _ := hG
    obtain ⟨i0, hi0, hz0, hz1, hz2⟩ := info_parts info42
    clear hL hC hG
    by_cases hlo : i < hf n
    · rw [pathT_lo _ n L i h2 hlo]
      have H1 : Hid _ := fun W => ih (hf n) e1 L i b o cap W hlo (by omega) hc
      have H2 : Hid _ := fun W => ttop_any kt (n - hf n) (fun j => L (hf n + j)) b (o + hf n) (cap - hf n) W (by omega) (by omega)
      have hlen := sides_lt 63 (hf n) i (by omega)
      rw [← path_len (ofT kt) _ (hf n) L i (Nat.le_refl _)] at hlen
      obtain ⟨S, hS⟩ : ∃ S, pathT (ofT kt) (hf n) L i = S := ⟨_, rfl⟩
      obtain ⟨T, hT⟩ : ∃ T, topT (ofT kt) (n - hf n) (fun j => L (hf n + j)) = T := ⟨_, rfl⟩
      rw [hS] at H1 hlen ⊢
      rw [hT] at H2 ⊢
      obtain ⟨m, hm2⟩ : ∃ m, hf n = m := ⟨_, rfl⟩
      rw [hm2] at e1 e2 HH H1 H2 hlo
      clear ih hS hm2 hT
      go_enter Tryd.func27, Tryd.ntmps27
      go_wp2_with fail
      refine Calls.mono HH.out ?_
      rintro e w1 ⟨rfl, q, hq⟩
      have hz1 : w1.heap.size = w.heap.size := by rw [hq]; rfl
      have hB1 : Below w.heap.size w w1 := by rw [hq]; exact below_drewN (Below.refl _ _) q
      clear hq
      have HB1 : Hid _ := hB1
      have HZ1 : Hid _ := hz1
      clear hB1 hz1
      go_wp2_with fail
      refine Calls.mono (H1.out _ (HG.out.below HB1.out) (by rw [HZ1.out]; exact hb) (fun j hj => HL.out j (by omega)) ((Co.lo HC.out (by omega)).below HB1.out hb)) ?_
      rintro e w2 ⟨v, rfl, ho, hB⟩
      rw [HZ1.out] at ho
      have hB2 : Below w.heap.size w w2 := HB1.out.trans (by rw [← HZ1.out]; exact hB)
      have HB2 : Hid _ := hB2
      have hb2 : b < w2.heap.size := by have := hB2.size; omega
      clear hB hB2
      obtain ⟨a1, cap1, hu⟩ := own_shape ho
      subst hu
      have HO : Hid (w2.ownsRow w.heap.size 42 1 _ S.length (S.map Value.string)) := ho
      clear ho
      go_wp2_with fail
      refine Calls.mono (H2.out _ (HG.out.below HB2.out) hb2 (fun j hj => HL.out _ (by omega)) ((Co.hi HC.out (by omega)).below HB2.out hb)) ?_
      rintro e w3 ⟨rfl, hB3⟩
      have ho := own_below HO.out hB3
      have hB : Below w.heap.size w w3 := HB2.out.trans (hB3.mono HB2.out.size)
      clear hB3
      have hB' : w.heap.size ≤ (w3.alloc (Obj.cells #[Value.string T] 42)).heap.size := by have := hB.size; simp; omega
      go_wp2_with (at_builtin; refine wpList_append_own_at _ rfl (.tmp 21) (.tmp 24) 43 rfl w.heap.size 42 i0 (.string ⟨#[]⟩) 1 16 Tryd.underlying43 hi0 hz0 hz1 hz2 rfl (by decide) _ S.length (S.map Value.string) rfl (ho.alloc _) ⟨w3.heap.size, 0, none⟩ 1 1 [.string T] rfl rfl (cell_one_new _ _ _) (str_one _) ?kb ?kc hB' ?_)
      case kb => unfold maxLen; omega
      case kc => omega
      intro v' w' hown' hgrow _ _
      have hbl' : Below w.heap.size w w' := (hB.alloc hB.size _).grown hgrow hB' (fun g hg => (own_lt ho g hg).1)
      have ho' : w'.ownsRow w.heap.size 42 1 v' (S ++ [T]).length ((S ++ [T]).map Value.string) := by simpa using hown'
      clear hown' hgrow ho hB hB'
      go_wp2
      go_ret
      exact ⟨_, rfl, ho', hbl'⟩
    · rw [pathT_hi _ n L i h2 hlo]
      have H1 : Hid _ := fun W => ih (n - hf n) (by omega) (fun j => L (hf n + j)) (i - hf n) b (o + hf n) (cap - hf n) W (by omega) (by omega) (by omega)
      have H2 : Hid _ := fun W => ttop_any kt (hf n) L b o cap W (by omega) (by omega)
      have hlen := sides_lt 63 (n - hf n) (i - hf n) (by omega)
      rw [← path_len (ofT kt) _ (n - hf n) (fun j => L (hf n + j)) (i - hf n) (Nat.le_refl _)] at hlen
      obtain ⟨S, hS⟩ : ∃ S, pathT (ofT kt) (n - hf n) (fun j => L (hf n + j)) (i - hf n) = S := ⟨_, rfl⟩
      obtain ⟨T, hT⟩ : ∃ T, topT (ofT kt) (hf n) L = T := ⟨_, rfl⟩
      rw [hS] at H1 hlen ⊢
      rw [hT] at H2 ⊢
      obtain ⟨m, hm2⟩ : ∃ m, hf n = m := ⟨_, rfl⟩
      rw [hm2] at e1 e2 HH H1 H2 hlo
      clear ih hS hm2 hT
      obtain ⟨i', rfl⟩ : ∃ i', i = m + i' := ⟨i - m, by omega⟩
      rw [show m + i' - m = i' by omega] at H1
      go_enter Tryd.func27, Tryd.ntmps27
      go_wp2_with fail
      refine Calls.mono HH.out ?_
      rintro e w1 ⟨rfl, q, hq⟩
      have hz1 : w1.heap.size = w.heap.size := by rw [hq]; rfl
      have hB1 : Below w.heap.size w w1 := by rw [hq]; exact below_drewN (Below.refl _ _) q
      clear hq
      have HB1 : Hid _ := hB1
      have HZ1 : Hid _ := hz1
      clear hB1 hz1
      go_wp2_with fail
      rw [show ((m : Int) + (i' : Int) - (m : Int)) = (i' : Int) by omega]
      refine Calls.mono (H1.out _ (HG.out.below HB1.out) (by rw [HZ1.out]; exact hb) (fun j hj => HL.out _ (by omega)) ((Co.hi HC.out (by omega)).below HB1.out hb)) ?_
      rintro e w2 ⟨v, rfl, ho, hB⟩
      rw [HZ1.out] at ho
      have hB2 : Below w.heap.size w w2 := HB1.out.trans (by rw [← HZ1.out]; exact hB)
      have HB2 : Hid _ := hB2
      have hb2 : b < w2.heap.size := by have := hB2.size; omega
      clear hB hB2
      obtain ⟨a1, cap1, hu⟩ := own_shape ho
      subst hu
      have HO : Hid (w2.ownsRow w.heap.size 42 1 _ S.length (S.map Value.string)) := ho
      clear ho
      go_wp2_with fail
      refine Calls.mono (H2.out _ (HG.out.below HB2.out) hb2 (fun j hj => HL.out j (by omega)) ((Co.lo HC.out (by omega)).below HB2.out hb)) ?_
      rintro e w3 ⟨rfl, hB3⟩
      have ho := own_below HO.out hB3
      have hB : Below w.heap.size w w3 := HB2.out.trans (hB3.mono HB2.out.size)
      clear hB3
      have hB' : w.heap.size ≤ (w3.alloc (Obj.cells #[Value.string T] 42)).heap.size := by have := hB.size; simp; omega
      go_wp2_with (at_builtin; refine wpList_append_own_at _ rfl (.tmp 31) (.tmp 34) 43 rfl w.heap.size 42 i0 (.string ⟨#[]⟩) 1 16 Tryd.underlying43 hi0 hz0 hz1 hz2 rfl (by decide) _ S.length (S.map Value.string) rfl (ho.alloc _) ⟨w3.heap.size, 0, none⟩ 1 1 [.string T] rfl rfl (cell_one_new _ _ _) (str_one _) ?kb ?kc hB' ?_)
      case kb => unfold maxLen; omega
      case kc => omega
      intro v' w' hown' hgrow _ _
      have hbl' : Below w.heap.size w w' := (hB.alloc hB.size _).grown hgrow hB' (fun g hg => (own_lt ho g hg).1)
      have ho' : w'.ownsRow w.heap.size 42 1 v' (S ++ [T]).length ((S ++ [T]).map Value.string) := by simpa using hown'
      clear hown' hgrow ho hB hB'
      go_wp2
      go_ret
      exact ⟨_, rfl, ho', hbl'⟩
end Go.Proofs.YtnghgdficnkbbaaDoor
