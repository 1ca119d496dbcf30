/-
  The walk of Paths.
-/
import Derived.Test.YtnghgdficnkbbaaDoorU6
import Derived.ArgAppend
import Derived.Deep.RegionLawGrows
namespace Go.Proofs.YtnghgdficnkbbaaDoor
open Go.RowKit
theorem strs_one (L : List ByteArray) : ∀ u ∈ L.map Value.string, u.oneCell' = true := by
  intro u hu; obtain ⟨t, _, rfl⟩ := List.mem_map.1 hu; rfl
theorem own_strs {w : World} {B n : Nat} {v : Value} {L : List ByteArray} (h : w.ownsRow B 9 1 v n (L.map Value.string)) (h0 : 0 < n) (hL : L.length = n) :
    ∃ g cap, v = .slice (some ⟨g, 0, none⟩) n cap ∧ B ≤ g ∧ g < w.heap.size ∧ n ≤ cap ∧ Cl w g n (tI (nth L)) := by
  rcases h.2 with ⟨_, h'⟩ | ⟨g, cap, cur, hv, hb, hh, hcap, _⟩
  · omega
  · subst hv
    refine ⟨g, cap, rfl, hb, (Array.getElem?_eq_some_iff.1 hh).1, hcap, fun i hi => ?_⟩
    rw [h.cellAt i (by omega)]
    have hi' : i < L.length := by omega
    simp [tI, nth, hi']
theorem cl_news {w : World} {g n : Nat} {F : Nat → ByteArray} (h : Cl w g n (tI F)) : ∀ j u, ((lst F n).map Value.string)[j]? = some u → w.cell? ((⟨g, 0, none⟩ : Addr).add j) = some u := by
  intro j u hj
  by_cases hjn : j < n
  · have e : ((⟨g, 0, none⟩ : Addr).add j) = ⟨g, j, none⟩ := by simp [Addr.add]; exact fun h => h.symm
    rw [e, h j hjn, ← hj]
    simp [lst, tI, hjn]
  · simp [lst, hjn] at hj
theorem lst_nth (S : List ByteArray) : lst (nth S) S.length = S := by
  apply List.ext_getElem?
  intro i
  by_cases hi : i < S.length
  · simp [lst, nth, hi]
  · simp [lst, hi]
theorem nth_lst (F : Nat → ByteArray) (n i : Nat) (h : i < n) : nth (lst F n) i = F i := by simp [nth, lst, h]
theorem fol_leads (D : ByteArray → ByteArray) (n i : Nat) (L : Nat → ByteArray) (S : List ByteArray) (hi : i < n) (hS : pathT D n L i = S) : fol D (topT D n L) n i (L i) S.length (nth S) = true := by
  unfold fol
  rw [if_pos (by rw [← hS]; exact path_len D n n L i (Nat.le_refl _)), lst_nth, ← hS, climb_top D n n L i (Nat.le_refl _) hi]
  simp
theorem fol_long (D : ByteArray → ByteArray) (n i : Nat) (L : Nat → ByteArray) (S : List ByteArray) (T leaf : ByteArray) (Q : Nat → ByteArray) (hS : pathT D n L i = S) : fol D T n i leaf (S.length + 1) Q = false := by
  unfold fol
  rw [if_neg (by rw [← hS, path_len D n n L i (Nat.le_refl _)]; omega)]
theorem fol_other (D : ByteArray → ByteArray) (n i : Nat) (L : Nat → ByteArray) (S : List ByteArray) (d : ByteArray) (hi : i < n) (hS : pathT D n L i = S) (h : fol D (topT D n L) n i d S.length (nth S) = true) : climbT D (L i) (sidesT n i) (lst (nth S) S.length) = climbT D d (sidesT n i) (lst (nth S) S.length) := by
  unfold fol at h
  rw [if_pos (by rw [← hS]; exact path_len D n n L i (Nat.le_refl _)), decide_eq_true_iff] at h
  rw [h, lst_nth, ← hS, climb_top D n n L i (Nat.le_refl _) hi]
theorem nth_snoc (S : List ByteArray) (T : ByteArray) (c : Nat) (hT : T.size ≤ c) (hS : ∀ i, i < S.length → (nth S i).size ≤ c) : ∀ i, i < S.length + 1 → (nth (S ++ [T]) i).size ≤ c := by
  intro i hi
  by_cases h : i < S.length
  · have : nth (S ++ [T]) i = nth S i := by unfold nth; simp [List.getElem?_append_left, h]
    rw [this]; exact hS i h
  · obtain rfl : i = S.length := by omega
    have : nth (S ++ [T]) S.length = T := by unfold nth; simp
    rw [this]; exact hT
set_option maxHeartbeats 8000000 in
set_option maxRecDepth 100000 in
theorem paths_any (a0 : Option Addr) (l0 c0 : Nat) (x : Int) (o : ByteArray) (w : World) (hT : Tab w 0 kt) (h1 : 1 ≤ w.heap.size)
    (hx0 : -9223372036854775808 ≤ x) (hx1 : x ≤ 9223372036854775807) (ho : o.size ≤ 140737488351232) (hlen0 : l0 ≤ 140737488355328)
    (hR : ∀ i, i < l0 → ∃ b off s, a0 = some ⟨b, off, none⟩ ∧ b < w.heap.size ∧ w.cell? ⟨b, off + i, none⟩ = some (.string s) ∧ s.size ≤ 140737488351232) :
    Calls Tryd.prog 3 #[.slice a0 l0 c0, .int .i64 x, .string o] w fun e w' => e = .returned (.bool true) ∧ Below w.heap.size w w' := by
  have HR : Hid _ := hR
  have HG : Hid (Gd kt w) := ⟨hT, h1⟩
  clear hT hR h1
  obtain ⟨i0, hi9, hz0, hz1, hz2⟩ := info_parts info9
  go_enter Tryd.func3, Tryd.ntmps3
  go_wp2_with fail
  refine (first_any w HG.out.tab HG.out.one).mono ?_
  rintro e w1 ⟨rfl, hB1⟩
  go_wp2
  go_loopw [9, 8] (fun iv v wr => ∃ (i : Nat) (L : List ByteArray), i ≤ l0 ∧ i ≤ 20 ∧ iv = .int .i64 i ∧ L.length = i ∧ (∀ s ∈ L, s.size = 32) ∧ wr.ownsRow w.heap.size 9 1 v i (L.map Value.string) ∧ Below w.heap.size w wr) (fun iv _ _ => 20 - (intOf iv).toNat)
  case atStart => exact ⟨0, [], by omega, by omega, rfl, rfl, by simp, World.ownsRow_nil _ _ _ _, hB1⟩
  case round =>
    clear hB1
    obtain ⟨i, L, hil, hi20, rfl, hLl, hLs, hown, hbl⟩ := hrel
    obtain ⟨a1, cap1, hu⟩ := own_shape hown
    subst hu
    have HLL : Hid _ := hLl
    have HLS : Hid _ := hLs
    clear hLl hLs
    by_cases hlt : i < l0 ∧ i < 20
    · obtain ⟨hlt1, hlt2⟩ := hlt
      obtain ⟨b, off, s, ha0, hb, hc, hs⟩ := HR.out i hlt1
      subst ha0
      have c1 : wr.cell? ⟨b, off + i, none⟩ = some (.string s) := (hbl.cell (p := ⟨b, off + i, none⟩) hb).trans hc
      have HO : Hid (wr.ownsRow w.heap.size 9 1 _ i (L.map Value.string)) := hown
      have HB : Hid _ := hbl
      clear hc hown hbl
      go_wp2_with fail
      refine (vdigest_any kt s wr hs (HG.out.below HB.out).tab (HG.out.below HB.out).one).mono ?_
      rintro e w2 ⟨rfl, hB2⟩
      have ht := ofT_size kt s
      obtain ⟨t, hte⟩ : ∃ t, ofT kt s = t := ⟨_, rfl⟩
      rw [hte] at ht ⊢
      have HT32 : Hid _ := ht
      clear hte ht
      have hown := own_below HO.out hB2
      have hbl : Below w.heap.size w w2 := HB.out.trans (hB2.mono HB.out.size)
      have hB' : w.heap.size ≤ (w2.alloc (Obj.cells #[Value.string t] 9)).heap.size := by have := hbl.size; simp; omega
      clear hB2 c1
      go_wp2_with (at_builtin; refine wpList_append_own_at _ rfl (.tmp 36) (.tmp 38) 22 rfl w.heap.size 9 i0 (.string ⟨#[]⟩) 1 16 Tryd.underlying22 hi9 hz0 hz1 hz2 rfl (by decide) _ i (L.map Value.string) rfl (hown.alloc _) ⟨w2.heap.size, 0, none⟩ 1 1 [.string t] rfl rfl (cell_one_new _ _ _) (str_one _) ?kb ?kc hB' ?_)
      case kb => unfold maxLen; omega
      case kc => omega
      intro v' w' hown' hgrow _ _
      have hbl' : Below w.heap.size w w' := (hbl.alloc hbl.size _).grown hgrow hB' (fun g hg => (own_lt hown g hg).1)
      have ho' : w'.ownsRow w.heap.size 9 1 v' (i + 1) ((L ++ [t]).map Value.string) := by simpa using hown'
      have hl' : (L ++ [t]).length = i + 1 := by rw [List.length_append, HLL.out]; rfl
      have hs' : ∀ s ∈ L ++ [t], s.size = 32 := fun s hs => by
        rcases List.mem_append.1 hs with h | h
        · exact HLS.out s h
        · rw [List.mem_singleton.1 h]; exact HT32.out
      have HL' : Hid _ := hl'
      have HS' : Hid _ := hs'
      clear hown' hgrow hown hbl hB' hl' hs'
      go_wp2
      go_roundw
      case rel => exact ⟨i + 1, L ++ [t], by omega, by omega, by go_num, HL'.out, HS'.out, ho', hbl'⟩
      case measure => simp [intOf]; omega
    · by_cases hn0 : i = 0
      · subst hn0
        obtain rfl : L = [] := List.eq_nil_of_length_eq_zero HLL.out
        have hl00 : l0 = 0 := by omega
        subst hl00
        clear HLL HLS hlt
        have HO : Hid (wr.ownsRow w.heap.size 9 1 _ 0 (([] : List ByteArray).map Value.string)) := hown
        have HB : Hid (Below w.heap.size w wr) := hbl
        have hsa : (⟨#[97]⟩ : ByteArray).size ≤ 140737488351232 := by decide
        clear hown hbl
        go_wp2_with fail
        refine (vdigest_any kt _ wr hsa (HG.out.below HB.out).tab (HG.out.below HB.out).one).mono ?_
        rintro e wa ⟨rfl, hBa⟩
        have ht := ofT_size kt ⟨#[97]⟩
        obtain ⟨t, hte⟩ : ∃ t, ofT kt ⟨#[97]⟩ = t := ⟨_, rfl⟩
        rw [hte] at ht ⊢
        have HT32 : Hid _ := ht
        clear hte ht
        have hown := own_below HO.out hBa
        have hbl : Below w.heap.size w wa := HB.out.trans (hBa.mono HB.out.size)
        have hB' : w.heap.size ≤ (wa.alloc (Obj.cells #[Value.string t] 9)).heap.size := by have := hbl.size; simp; omega
        clear hBa
        go_wp2_with (at_builtin; refine wpList_append_own_at _ rfl (.tmp 43) (.tmp 45) 22 rfl w.heap.size 9 i0 (.string ⟨#[]⟩) 1 16 Tryd.underlying22 hi9 hz0 hz1 hz2 rfl (by decide) _ 0 (([] : List ByteArray).map Value.string) rfl (hown.alloc _) ⟨wa.heap.size, 0, none⟩ 1 1 [.string t] rfl rfl (cell_one_new _ _ _) (str_one _) ?kb ?kc hB' ?_)
        case kb => unfold maxLen; omega
        case kc => omega
        intro v' wb hown' hgrow _ _
        have HBW : Hid (Below w.heap.size w wb) := (hbl.alloc hbl.size _).grown hgrow hB' (fun g hg => (own_lt hown g hg).1)
        have ho' : wb.ownsRow w.heap.size 9 1 v' 1 ([t].map Value.string) := by simpa using hown'
        obtain ⟨L, hL⟩ : ∃ L, [t] = L := ⟨_, rfl⟩
        have HLL : Hid (L.length = 1) := by show L.length = 1; rw [← hL]; rfl
        have HLS : Hid (∀ s ∈ L, s.size = 32) := fun s hs => by rw [← hL] at hs; rw [List.mem_singleton.1 hs]; exact HT32.out
        rw [hL] at ho'
        obtain ⟨g, cap, hv, hg, hg0, hcap, hC0⟩ := own_strs ho' (by omega) HLL.out
        have HC0 : Hid (Cl wb g 1 (tI (nth L))) := hC0
        subst hv
        clear hC0 ho' hL hown' hgrow hown hbl hB' HT32
        have HGW : Hid (Gd kt wb) := HG.out.below HBW.out
        have HSZ : Hid (∀ q, q < 1 → (nth L q).size = 32) := fun q hq => HLS.out _ (nth_mem L q (by rw [HLL.out]; exact hq))
        have HSZ2 : Hid (∀ q, q < 1 → (nth L q).size ≤ 35184372088832) := fun q hq => by rw [HSZ.out q hq]; omega
        obtain ⟨F, hF⟩ : ∃ F, nth L = F := ⟨_, rfl⟩
        rw [hF] at HSZ HSZ2 HC0
        clear hF HLL HLS
        go_wp2_with (at_builtin; refine wpList_append_grows wb rfl (.tmp 47) (.tmp 48) 22 rfl 9 i0 (.string ⟨#[]⟩) 1 16 Tryd.underlying22 hi9 hz0 hz1 hz2 rfl (by decide) none 0 0 [] rfl (fun _ => ⟨rfl, rfl⟩) rfl (fun _ h => by cases h) ⟨g, 0, none⟩ 1 cap ((lst F 1).map Value.string) rfl (by simp [lst]) (cl_news HC0.out) (strs_one _) (by omega) ?kb2 ?kc2 ?_)
        case kb2 => unfold maxLen; omega
        case kc2 => omega
        intro v2 w2 hown2 hgrow2
        have hB2 : Below wb.heap.size wb w2 := (Below.refl _ _).grown hgrow2 (Nat.le_refl _) (fun _ h => by cases h)
        obtain ⟨g2, cap2, hv2, hg2, hgl2, hcap2, hC2⟩ := own_strs hown2 (by omega) (lst_len F 1)
        subst hv2
        have HC2 : Hid (Cl w2 g2 1 (tI F)) := fun q hq => by
          rw [hC2 q hq]
          show some (Value.string (nth (lst F 1) q)) = some (Value.string (F q))
          rw [nth_lst F 1 q hq]
        have HB2 : Hid (Below wb.heap.size wb w2) := hB2
        have HC02 : Hid (Cl w2 g 1 (tI F)) := Cl.below HC0.out hB2 hg0
        have hg02 : g < w2.heap.size := Nat.lt_of_lt_of_le hg0 hB2.size
        have HG2 : Hid (Gd kt w2) := HGW.out.below hB2
        have HBW2 : Hid (Below w.heap.size w w2) := HBW.out.trans (hB2.mono HBW.out.size)
        clear hown2 hgrow2 hB2 hC2
        go_wp2_with fail
        refine (vtop_any kt F 1 _ w2 (by omega) HG2.out HSZ2.out (.inr ⟨g2, cap2, rfl, hgl2, HC2.out⟩)).mono ?_
        rintro e w3 ⟨rfl, hB3⟩
        have hT32 : (topT (ofT kt) 1 F).size = 32 := topT_size (ofT kt) 32 (ofT_size kt) 1 F HSZ.out
        have HC3 : Hid (Cl w3 g2 1 (tI F)) := Cl.below HC2.out hB3 hgl2
        have HC03 : Hid (Cl w3 g 1 (tI F)) := Cl.below HC02.out hB3 hg02
        have hg03 : g < w3.heap.size := Nat.lt_of_lt_of_le hg02 hB3.size
        have hgl3 : g2 < w3.heap.size := Nat.lt_of_lt_of_le hgl2 hB3.size
        have HG3 : Hid (Gd kt w3) := HG2.out.below hB3
        have HBW3 : Hid (Below w.heap.size w w3) := HBW2.out.trans (hB3.mono HBW2.out.size)
        clear hB3
        obtain ⟨T, hTe⟩ : ∃ T, topT (ofT kt) 1 F = T := ⟨_, rfl⟩
        have HTE : Hid (topT (ofT kt) 1 F = T) := hTe
        rw [hTe] at hT32 ⊢
        clear hTe
        have hT45 : T.size ≤ 35184372088832 := by omega
        go_wp2_with fail
        refine (pick_any x 1 w3 (by omega) (by omega) hx0 hx1).mono ?_
        rintro e w3' ⟨rfl, rfl⟩
        have hj := pk_lt x 1 (by omega)
        obtain ⟨j, hje⟩ : ∃ j, pk x 1 = j := ⟨_, rfl⟩
        rw [hje] at hj ⊢
        clear hje hx0 hx1
        have HPT : Hid _ := vpath_any kt F 1 j g2 cap2 w3' hj (by omega) HG3.out HSZ2.out hgl3 HC3.out
        have hSl := path_len (ofT kt) 1 1 F j (Nat.le_refl _)
        have hS63 := sides_lt 63 1 j (by omega)
        have HS45 : Hid (∀ q, q < (pathT (ofT kt) 1 F j).length → (nth (pathT (ofT kt) 1 F j) q).size ≤ 35184372088832) := fun q hq => pathT_le (ofT kt) 35184372088832 (ofT_le kt) 1 1 F j (Nat.le_refl _) HSZ2.out _ (nth_mem _ _ hq)
        obtain ⟨S, hSe⟩ : ∃ S, pathT (ofT kt) 1 F j = S := ⟨_, rfl⟩
        have HSE : Hid (pathT (ofT kt) 1 F j = S) := hSe
        rw [hSe] at HPT hSl HS45
        rw [← hSl] at hS63
        have HSL : Hid (S.length = (sidesT 1 j).length) := hSl
        clear hSl hSe
        go_wp2_with fail
        refine Calls.mono HPT.out ?_
        rintro e w4 ⟨p, rfl, hp, hRp, hB4⟩
        clear HPT
        have HRp : Hid (Rw w4 p S.length 9 (tI (nth S))) := hRp
        have hpl : p < w4.heap.size := hRp.lt
        have HC04 : Hid (Cl w4 g 1 (tI F)) := Cl.below HC03.out hB4 hg03
        have hg04 : g < w4.heap.size := Nat.lt_of_lt_of_le hg03 hB4.size
        have HG4 : Hid (Gd kt w4) := HG3.out.below hB4
        have HBW4 : Hid (Below w.heap.size w w4) := HBW3.out.trans (hB4.mono HBW3.out.size)
        have c4 : w4.cell? ⟨g, j, none⟩ = some (.string (F j)) := HC04.out j hj
        have HFj := HSZ2.out j hj
        have HF1 : Hid (fol (ofT kt) T 1 j (F j) S.length (nth S) = true) := by show fol _ T _ _ _ _ _ = true; rw [← HTE.out]; exact fol_leads _ _ _ _ _ hj HSE.out
        clear hRp hB4
        go_wp2_with fail
        refine (vfollows_any kt (nth S) 1 j S.length _ T (F j) w4 hj (by omega) (by omega) HG4.out HFj HS45.out (.inr ⟨p, S.length, rfl, hpl, HRp.out.cl⟩)).mono ?_
        rintro e w5 ⟨rfl, hB5⟩
        rw [HF1.out]
        have HRp5 : Hid (Rw w5 p S.length 9 (tI (nth S))) := HRp.out.below hB5 hpl
        have hpl5 : p < w5.heap.size := Nat.lt_of_lt_of_le hpl hB5.size
        have HC05 : Hid (Cl w5 g 1 (tI F)) := Cl.below HC04.out hB5 hg04
        have hg05 : g < w5.heap.size := Nat.lt_of_lt_of_le hg04 hB5.size
        have HG5 : Hid (Gd kt w5) := HG4.out.below hB5
        have HBW5 : Hid (Below w.heap.size w w5) := HBW4.out.trans (hB5.mono HBW4.out.size)
        have c5 : w5.cell? ⟨g, j, none⟩ = some (.string (F j)) := HC05.out j hj
        clear hB5 c4
        go_wp2
        have hm1 : S.length + 1 ≤ maxLen := by unfold maxLen; omega
        have hm2 : (S.length + 1) * 16 ≤ 140737488355328 := by omega
        have hj0 : (0 : Int) ≤ (j : Int) := by omega
        have hjn : (j : Int) < (1 : Int) := by omega
        have hne5 := World.new_ne w5 _ c5
        have HL6 : Hid (∀ q, q < S.length + 1 → (nth (S ++ [T]) q).size ≤ 35184372088832) := nth_snoc S T _ hT45 HS45.out
        have HF2 : Hid (fol (ofT kt) T 1 j (F j) (S.length + 1) (nth (S ++ [T])) = false) := fol_long _ _ _ F _ _ _ _ HSE.out
        go_region_held3 (fun w' => w'.cell? ⟨g, j, none⟩ = some (.string (F j))) (go_keep) (first | (refine step_append_grows rfl (.tmp 80) (.tmp 82) 22 rfl 9 i0 (.string ⟨#[]⟩) 1 16 Tryd.underlying22 hi9 hz0 hz1 hz2 rfl (by decide) (some ⟨p, 0, none⟩) S.length S.length ((lst (nth S) S.length).map Value.string) (by simp [Act.eval]) (fun h => by cases h) (by simp [lst]) (fun b hb => by cases hb; exact cl_news (HRp5.out.alloc _).cl) ⟨w5.heap.size, 0, none⟩ 1 1 [.string T] (by simp [Act.eval]) rfl (by exact cell_one_new _ _ _) (str_one _) (by omega) hm1 hm2 ?_; intro v6 w6 hown6 hgrow6; have hB6 : Below w5.heap.size w5 w6 := ((Below.refl _ _).alloc (Nat.le_refl _) _).drew.grown hgrow6 (by show w5.heap.size ≤ (w5.alloc _).heap.size; simp) (fun _ h => by cases h); have c6 : w6.cell? ⟨g, j, none⟩ = some (.string (F j)) := (hB6.cell (p := ⟨g, j, none⟩) hg05).trans c5) | (go_at_call 9; refine (vfollows_any kt (nth (S ++ [T])) 1 j (S.length + 1) _ T (F j) _ hj (by omega) (by omega) (by exact HG5.out.below hB6) HFj HL6.out (by exact own_ls (L := S ++ [T]) (by rw [lst_nth] at hown6; simpa using hown6) (by simp))).mono ?_; rintro e w7 ⟨rfl, hB7⟩; have c7 : w7.cell? ⟨g, j, none⟩ = some (.string (F j)) := (hB7.cell (p := ⟨g, j, none⟩) (Nat.lt_of_lt_of_le hg05 hB6.size)).trans c6; rw [HF2.out]))
        have hB57 : Below w5.heap.size w5 w7 := hB6.trans (hB7.mono hB6.size)
        have HRp7 : Hid (Rw w7 p S.length 9 (tI (nth S))) := HRp5.out.below hB57 hpl5
        have hpl7 : p < w7.heap.size := Nat.lt_of_lt_of_le hpl5 hB57.size
        have HC07 : Hid (Cl w7 g 1 (tI F)) := Cl.below HC05.out hB57 hg05
        have hg07 : g < w7.heap.size := Nat.lt_of_lt_of_le hg05 hB57.size
        have HG7 : Hid (Gd kt w7) := HG5.out.below hB57
        have HBW7 : Hid (Below w.heap.size w w7) := HBW5.out.trans (hB57.mono HBW5.out.size)
        clear hB57 hB6 hB7 c6 c5 hown6 hgrow6 hne5
        go_wp2_with fail
        refine (vdigest_any kt o w7 ho HG7.out.tab HG7.out.one).mono ?_
        rintro e w8 ⟨rfl, hB8⟩
        have hd45 := ofT_le kt o
        obtain ⟨d, hde⟩ : ∃ d, ofT kt o = d := ⟨_, rfl⟩
        rw [hde] at hd45 ⊢
        clear hde
        have HRp8 : Hid (Rw w8 p S.length 9 (tI (nth S))) := HRp7.out.below hB8 hpl7
        have hpl8 : p < w8.heap.size := Nat.lt_of_lt_of_le hpl7 hB8.size
        have HC08 : Hid (Cl w8 g 1 (tI F)) := Cl.below HC07.out hB8 hg07
        have hg08 : g < w8.heap.size := Nat.lt_of_lt_of_le hg07 hB8.size
        have HG8 : Hid (Gd kt w8) := HG7.out.below hB8
        have HBW8 : Hid (Below w.heap.size w w8) := HBW7.out.trans (hB8.mono HBW7.out.size)
        clear hB8 c7
        go_wp2_with fail
        refine (vfollows_any kt (nth S) 1 j S.length _ T d w8 hj (by omega) (by omega) HG8.out hd45 HS45.out (.inr ⟨p, S.length, rfl, hpl8, HRp8.out.cl⟩)).mono ?_
        rintro e w9 ⟨rfl, hB9⟩
        have HRp9 : Hid (Rw w9 p S.length 9 (tI (nth S))) := HRp8.out.below hB9 hpl8
        have hpl9 : p < w9.heap.size := Nat.lt_of_lt_of_le hpl8 hB9.size
        have HC09 : Hid (Cl w9 g 1 (tI F)) := Cl.below HC08.out hB9 hg08
        have HG9 : Hid (Gd kt w9) := HG8.out.below hB9
        have HBW9 : Hid (Below w.heap.size w w9) := HBW8.out.trans (hB9.mono HBW8.out.size)
        have c9 : w9.cell? ⟨g, j, none⟩ = some (.string (F j)) := HC09.out j hj
        clear hB9
        have hts : ((T.size : Int) != 32) = false := by rw [hT32]; rfl
        by_cases hdl : d = F j
        · subst hdl
          generalize fol _ _ _ _ _ _ _ = X
          go_wp2
          go_ret
          exact ⟨rfl, HBW9.out⟩
        · have hdn : ¬ d.toList = (F j).toList := by intro h; exact hdl (by have := tl_beq d (F j); simpa [h] using this)
          have hdn' : (d.toList == (F j).toList) = false := by rw [tl_beq]; simpa using hdl
          by_cases hfo : fol (ofT kt) T 1 j d S.length (nth S) = true
          · have HEQ : Hid (climbT (ofT kt) (F j) (sidesT 1 j) (lst (nth S) S.length) = climbT (ofT kt) d (sidesT 1 j) (lst (nth S) S.length)) := fol_other _ _ _ F S d hj HSE.out (by rw [HTE.out]; exact hfo)
            rw [hfo]
            clear hfo
            go_wp2_with fail
            refine (joined_any kt (nth S) S.length 1 j (F j) d p S.length w9 hj (by omega) HSL.out.symm (Nat.le_refl _) (by omega) HG9.out hpl9 HFj hd45 HS45.out HRp9.out.cl (fun h => hdl h.symm) HEQ.out).mono ?_
            rintro e w10 ⟨rfl, hB10⟩
            have hB : Below w.heap.size w w10 := HBW9.out.trans (hB10.mono HBW9.out.size)
            clear hB10
            go_wp2
            go_ret
            exact ⟨rfl, hB⟩
          · have hfo' : fol (ofT kt) T 1 j d S.length (nth S) = false := by simpa using hfo
            rw [hfo']
            clear hfo hfo'
            go_wp2
            go_ret
            exact ⟨rfl, HBW9.out⟩
      · by_cases hl : i < l0
        · have hd1 : decide ((i : Int) < (l0 : Int)) = true := by simp; omega
          have hd2 : decide ((i : Int) < 20) = false := by simp; omega
          obtain ⟨g, cap, hv, hg, hg0, hcap, hC0⟩ := own_strs hown (by omega) HLL.out
          have HC0 : Hid (Cl wr g i (tI (nth L))) := hC0
          have HBW : Hid (Below w.heap.size w wr) := hbl
          obtain ⟨ha1, hc1⟩ : a1 = some ⟨g, 0, none⟩ ∧ cap = cap1 := by simp at hv; exact ⟨hv.1, hv.2.symm⟩
          subst ha1
          subst hc1
          clear hC0 hbl hown hlt hv
          have hd0 : ((i : Int) == 0) = false := by simp; omega
          have HGW : Hid (Gd kt wr) := HG.out.below HBW.out
          have HSZ : Hid (∀ q, q < i → (nth L q).size = 32) := fun q hq => HLS.out _ (nth_mem L q (by rw [HLL.out]; exact hq))
          have HSZ2 : Hid (∀ q, q < i → (nth L q).size ≤ 35184372088832) := fun q hq => by rw [HSZ.out q hq]; omega
          obtain ⟨F, hF⟩ : ∃ F, nth L = F := ⟨_, rfl⟩
          rw [hF] at HSZ HSZ2 HC0
          clear hF HLL HLS
          go_wp2_with (at_builtin; refine wpList_append_grows wr rfl (.tmp 47) (.tmp 48) 22 rfl 9 i0 (.string ⟨#[]⟩) 1 16 Tryd.underlying22 hi9 hz0 hz1 hz2 rfl (by decide) none 0 0 [] rfl (fun _ => ⟨rfl, rfl⟩) rfl (fun _ h => by cases h) ⟨g, 0, none⟩ i cap ((lst F i).map Value.string) rfl (by simp [lst]) (cl_news HC0.out) (strs_one _) (by omega) ?kb2 ?kc2 ?_)
          case kb2 => unfold maxLen; omega
          case kc2 => omega
          intro v2 w2 hown2 hgrow2
          have hB2 : Below wr.heap.size wr w2 := (Below.refl _ _).grown hgrow2 (Nat.le_refl _) (fun _ h => by cases h)
          obtain ⟨g2, cap2, hv2, hg2, hgl2, hcap2, hC2⟩ := own_strs hown2 (by omega) (lst_len F i)
          subst hv2
          have HC2 : Hid (Cl w2 g2 i (tI F)) := fun q hq => by
            rw [hC2 q hq]
            show some (Value.string (nth (lst F i) q)) = some (Value.string (F q))
            rw [nth_lst F i q hq]
          have HB2 : Hid (Below wr.heap.size wr w2) := hB2
          have HC02 : Hid (Cl w2 g i (tI F)) := Cl.below HC0.out hB2 hg0
          have hg02 : g < w2.heap.size := Nat.lt_of_lt_of_le hg0 hB2.size
          have HG2 : Hid (Gd kt w2) := HGW.out.below hB2
          have HBW2 : Hid (Below w.heap.size w w2) := HBW.out.trans (hB2.mono HBW.out.size)
          clear hown2 hgrow2 hB2 hC2
          go_wp2_with fail
          refine (vtop_any kt F i _ w2 (by omega) HG2.out HSZ2.out (.inr ⟨g2, cap2, rfl, hgl2, HC2.out⟩)).mono ?_
          rintro e w3 ⟨rfl, hB3⟩
          have hT32 : (topT (ofT kt) i F).size = 32 := topT_size (ofT kt) 32 (ofT_size kt) i F HSZ.out
          have HC3 : Hid (Cl w3 g2 i (tI F)) := Cl.below HC2.out hB3 hgl2
          have HC03 : Hid (Cl w3 g i (tI F)) := Cl.below HC02.out hB3 hg02
          have hg03 : g < w3.heap.size := Nat.lt_of_lt_of_le hg02 hB3.size
          have hgl3 : g2 < w3.heap.size := Nat.lt_of_lt_of_le hgl2 hB3.size
          have HG3 : Hid (Gd kt w3) := HG2.out.below hB3
          have HBW3 : Hid (Below w.heap.size w w3) := HBW2.out.trans (hB3.mono HBW2.out.size)
          clear hB3
          obtain ⟨T, hTe⟩ : ∃ T, topT (ofT kt) i F = T := ⟨_, rfl⟩
          have HTE : Hid (topT (ofT kt) i F = T) := hTe
          rw [hTe] at hT32 ⊢
          clear hTe
          have hT45 : T.size ≤ 35184372088832 := by omega
          go_wp2_with fail
          refine (pick_any x i w3 (by omega) (by omega) hx0 hx1).mono ?_
          rintro e w3' ⟨rfl, rfl⟩
          have hj := pk_lt x i (by omega)
          obtain ⟨j, hje⟩ : ∃ j, pk x i = j := ⟨_, rfl⟩
          rw [hje] at hj ⊢
          clear hje hx0 hx1
          have HPT : Hid _ := vpath_any kt F i j g2 cap2 w3' hj (by omega) HG3.out HSZ2.out hgl3 HC3.out
          have hSl := path_len (ofT kt) i i F j (Nat.le_refl _)
          have hS63 := sides_lt 63 i j (by omega)
          have HS45 : Hid (∀ q, q < (pathT (ofT kt) i F j).length → (nth (pathT (ofT kt) i F j) q).size ≤ 35184372088832) := fun q hq => pathT_le (ofT kt) 35184372088832 (ofT_le kt) i i F j (Nat.le_refl _) HSZ2.out _ (nth_mem _ _ hq)
          obtain ⟨S, hSe⟩ : ∃ S, pathT (ofT kt) i F j = S := ⟨_, rfl⟩
          have HSE : Hid (pathT (ofT kt) i F j = S) := hSe
          rw [hSe] at HPT hSl HS45
          rw [← hSl] at hS63
          have HSL : Hid (S.length = (sidesT i j).length) := hSl
          clear hSl hSe
          go_wp2_with fail
          refine Calls.mono HPT.out ?_
          rintro e w4 ⟨p, rfl, hp, hRp, hB4⟩
          clear HPT
          have HRp : Hid (Rw w4 p S.length 9 (tI (nth S))) := hRp
          have hpl : p < w4.heap.size := hRp.lt
          have HC04 : Hid (Cl w4 g i (tI F)) := Cl.below HC03.out hB4 hg03
          have hg04 : g < w4.heap.size := Nat.lt_of_lt_of_le hg03 hB4.size
          have HG4 : Hid (Gd kt w4) := HG3.out.below hB4
          have HBW4 : Hid (Below w.heap.size w w4) := HBW3.out.trans (hB4.mono HBW3.out.size)
          have c4 : w4.cell? ⟨g, j, none⟩ = some (.string (F j)) := HC04.out j hj
          have HFj := HSZ2.out j hj
          have HF1 : Hid (fol (ofT kt) T i j (F j) S.length (nth S) = true) := by show fol _ T _ _ _ _ _ = true; rw [← HTE.out]; exact fol_leads _ _ _ _ _ hj HSE.out
          clear hRp hB4
          go_wp2_with fail
          refine (vfollows_any kt (nth S) i j S.length _ T (F j) w4 hj (by omega) (by omega) HG4.out HFj HS45.out (.inr ⟨p, S.length, rfl, hpl, HRp.out.cl⟩)).mono ?_
          rintro e w5 ⟨rfl, hB5⟩
          rw [HF1.out]
          have HRp5 : Hid (Rw w5 p S.length 9 (tI (nth S))) := HRp.out.below hB5 hpl
          have hpl5 : p < w5.heap.size := Nat.lt_of_lt_of_le hpl hB5.size
          have HC05 : Hid (Cl w5 g i (tI F)) := Cl.below HC04.out hB5 hg04
          have hg05 : g < w5.heap.size := Nat.lt_of_lt_of_le hg04 hB5.size
          have HG5 : Hid (Gd kt w5) := HG4.out.below hB5
          have HBW5 : Hid (Below w.heap.size w w5) := HBW4.out.trans (hB5.mono HBW4.out.size)
          have c5 : w5.cell? ⟨g, j, none⟩ = some (.string (F j)) := HC05.out j hj
          clear hB5 c4
          go_wp2
          have hm1 : S.length + 1 ≤ maxLen := by unfold maxLen; omega
          have hm2 : (S.length + 1) * 16 ≤ 140737488355328 := by omega
          have hj0 : (0 : Int) ≤ (j : Int) := by omega
          have hjn : (j : Int) < (i : Int) := by omega
          have hne5 := World.new_ne w5 _ c5
          have HL6 : Hid (∀ q, q < S.length + 1 → (nth (S ++ [T]) q).size ≤ 35184372088832) := nth_snoc S T _ hT45 HS45.out
          have HF2 : Hid (fol (ofT kt) T i j (F j) (S.length + 1) (nth (S ++ [T])) = false) := fol_long _ _ _ F _ _ _ _ HSE.out
          go_region_held3 (fun w' => w'.cell? ⟨g, j, none⟩ = some (.string (F j))) (go_keep) (first | (refine step_append_grows rfl (.tmp 80) (.tmp 82) 22 rfl 9 i0 (.string ⟨#[]⟩) 1 16 Tryd.underlying22 hi9 hz0 hz1 hz2 rfl (by decide) (some ⟨p, 0, none⟩) S.length S.length ((lst (nth S) S.length).map Value.string) (by simp [Act.eval]) (fun h => by cases h) (by simp [lst]) (fun b hb => by cases hb; exact cl_news (HRp5.out.alloc _).cl) ⟨w5.heap.size, 0, none⟩ 1 1 [.string T] (by simp [Act.eval]) rfl (by exact cell_one_new _ _ _) (str_one _) (by omega) hm1 hm2 ?_; intro v6 w6 hown6 hgrow6; have hB6 : Below w5.heap.size w5 w6 := ((Below.refl _ _).alloc (Nat.le_refl _) _).drew.grown hgrow6 (by show w5.heap.size ≤ (w5.alloc _).heap.size; simp) (fun _ h => by cases h); have c6 : w6.cell? ⟨g, j, none⟩ = some (.string (F j)) := (hB6.cell (p := ⟨g, j, none⟩) hg05).trans c5) | (go_at_call 9; refine (vfollows_any kt (nth (S ++ [T])) i j (S.length + 1) _ T (F j) _ hj (by omega) (by omega) (by exact HG5.out.below hB6) HFj HL6.out (by exact own_ls (L := S ++ [T]) (by rw [lst_nth] at hown6; simpa using hown6) (by simp))).mono ?_; rintro e w7 ⟨rfl, hB7⟩; have c7 : w7.cell? ⟨g, j, none⟩ = some (.string (F j)) := (hB7.cell (p := ⟨g, j, none⟩) (Nat.lt_of_lt_of_le hg05 hB6.size)).trans c6; rw [HF2.out]))
          have hB57 : Below w5.heap.size w5 w7 := hB6.trans (hB7.mono hB6.size)
          have HRp7 : Hid (Rw w7 p S.length 9 (tI (nth S))) := HRp5.out.below hB57 hpl5
          have hpl7 : p < w7.heap.size := Nat.lt_of_lt_of_le hpl5 hB57.size
          have HC07 : Hid (Cl w7 g i (tI F)) := Cl.below HC05.out hB57 hg05
          have hg07 : g < w7.heap.size := Nat.lt_of_lt_of_le hg05 hB57.size
          have HG7 : Hid (Gd kt w7) := HG5.out.below hB57
          have HBW7 : Hid (Below w.heap.size w w7) := HBW5.out.trans (hB57.mono HBW5.out.size)
          clear hB57 hB6 hB7 c6 c5 hown6 hgrow6 hne5
          go_wp2_with fail
          refine (vdigest_any kt o w7 ho HG7.out.tab HG7.out.one).mono ?_
          rintro e w8 ⟨rfl, hB8⟩
          have hd45 := ofT_le kt o
          obtain ⟨d, hde⟩ : ∃ d, ofT kt o = d := ⟨_, rfl⟩
          rw [hde] at hd45 ⊢
          clear hde
          have HRp8 : Hid (Rw w8 p S.length 9 (tI (nth S))) := HRp7.out.below hB8 hpl7
          have hpl8 : p < w8.heap.size := Nat.lt_of_lt_of_le hpl7 hB8.size
          have HC08 : Hid (Cl w8 g i (tI F)) := Cl.below HC07.out hB8 hg07
          have hg08 : g < w8.heap.size := Nat.lt_of_lt_of_le hg07 hB8.size
          have HG8 : Hid (Gd kt w8) := HG7.out.below hB8
          have HBW8 : Hid (Below w.heap.size w w8) := HBW7.out.trans (hB8.mono HBW7.out.size)
          clear hB8 c7
          go_wp2_with fail
          refine (vfollows_any kt (nth S) i j S.length _ T d w8 hj (by omega) (by omega) HG8.out hd45 HS45.out (.inr ⟨p, S.length, rfl, hpl8, HRp8.out.cl⟩)).mono ?_
          rintro e w9 ⟨rfl, hB9⟩
          have HRp9 : Hid (Rw w9 p S.length 9 (tI (nth S))) := HRp8.out.below hB9 hpl8
          have hpl9 : p < w9.heap.size := Nat.lt_of_lt_of_le hpl8 hB9.size
          have HC09 : Hid (Cl w9 g i (tI F)) := Cl.below HC08.out hB9 hg08
          have HG9 : Hid (Gd kt w9) := HG8.out.below hB9
          have HBW9 : Hid (Below w.heap.size w w9) := HBW8.out.trans (hB9.mono HBW8.out.size)
          have c9 : w9.cell? ⟨g, j, none⟩ = some (.string (F j)) := HC09.out j hj
          clear hB9
          have hts : ((T.size : Int) != 32) = false := by rw [hT32]; rfl
          by_cases hdl : d = F j
          · subst hdl
            generalize fol _ _ _ _ _ _ _ = X
            go_wp2
            go_ret
            exact ⟨rfl, HBW9.out⟩
          · have hdn : ¬ d.toList = (F j).toList := by intro h; exact hdl (by have := tl_beq d (F j); simpa [h] using this)
            have hdn' : (d.toList == (F j).toList) = false := by rw [tl_beq]; simpa using hdl
            by_cases hfo : fol (ofT kt) T i j d S.length (nth S) = true
            · have HEQ : Hid (climbT (ofT kt) (F j) (sidesT i j) (lst (nth S) S.length) = climbT (ofT kt) d (sidesT i j) (lst (nth S) S.length)) := fol_other _ _ _ F S d hj HSE.out (by rw [HTE.out]; exact hfo)
              rw [hfo]
              clear hfo
              go_wp2_with fail
              refine (joined_any kt (nth S) S.length i j (F j) d p S.length w9 hj (by omega) HSL.out.symm (Nat.le_refl _) (by omega) HG9.out hpl9 HFj hd45 HS45.out HRp9.out.cl (fun h => hdl h.symm) HEQ.out).mono ?_
              rintro e w10 ⟨rfl, hB10⟩
              have hB : Below w.heap.size w w10 := HBW9.out.trans (hB10.mono HBW9.out.size)
              clear hB10
              go_wp2
              go_ret
              exact ⟨rfl, hB⟩
            · have hfo' : fol (ofT kt) T i j d S.length (nth S) = false := by simpa using hfo
              rw [hfo']
              clear hfo hfo'
              go_wp2
              go_ret
              exact ⟨rfl, HBW9.out⟩
        · have hd1 : decide ((i : Int) < (l0 : Int)) = false := by simp; omega
          obtain ⟨g, cap, hv, hg, hg0, hcap, hC0⟩ := own_strs hown (by omega) HLL.out
          have HC0 : Hid (Cl wr g i (tI (nth L))) := hC0
          have HBW : Hid (Below w.heap.size w wr) := hbl
          obtain ⟨ha1, hc1⟩ : a1 = some ⟨g, 0, none⟩ ∧ cap = cap1 := by simp at hv; exact ⟨hv.1, hv.2.symm⟩
          subst ha1
          subst hc1
          clear hC0 hbl hown hlt hv
          have hd0 : ((i : Int) == 0) = false := by simp; omega
          have HGW : Hid (Gd kt wr) := HG.out.below HBW.out
          have HSZ : Hid (∀ q, q < i → (nth L q).size = 32) := fun q hq => HLS.out _ (nth_mem L q (by rw [HLL.out]; exact hq))
          have HSZ2 : Hid (∀ q, q < i → (nth L q).size ≤ 35184372088832) := fun q hq => by rw [HSZ.out q hq]; omega
          obtain ⟨F, hF⟩ : ∃ F, nth L = F := ⟨_, rfl⟩
          rw [hF] at HSZ HSZ2 HC0
          clear hF HLL HLS
          go_wp2_with (at_builtin; refine wpList_append_grows wr rfl (.tmp 47) (.tmp 48) 22 rfl 9 i0 (.string ⟨#[]⟩) 1 16 Tryd.underlying22 hi9 hz0 hz1 hz2 rfl (by decide) none 0 0 [] rfl (fun _ => ⟨rfl, rfl⟩) rfl (fun _ h => by cases h) ⟨g, 0, none⟩ i cap ((lst F i).map Value.string) rfl (by simp [lst]) (cl_news HC0.out) (strs_one _) (by omega) ?kb2 ?kc2 ?_)
          case kb2 => unfold maxLen; omega
          case kc2 => omega
          intro v2 w2 hown2 hgrow2
          have hB2 : Below wr.heap.size wr w2 := (Below.refl _ _).grown hgrow2 (Nat.le_refl _) (fun _ h => by cases h)
          obtain ⟨g2, cap2, hv2, hg2, hgl2, hcap2, hC2⟩ := own_strs hown2 (by omega) (lst_len F i)
          subst hv2
          have HC2 : Hid (Cl w2 g2 i (tI F)) := fun q hq => by
            rw [hC2 q hq]
            show some (Value.string (nth (lst F i) q)) = some (Value.string (F q))
            rw [nth_lst F i q hq]
          have HB2 : Hid (Below wr.heap.size wr w2) := hB2
          have HC02 : Hid (Cl w2 g i (tI F)) := Cl.below HC0.out hB2 hg0
          have hg02 : g < w2.heap.size := Nat.lt_of_lt_of_le hg0 hB2.size
          have HG2 : Hid (Gd kt w2) := HGW.out.below hB2
          have HBW2 : Hid (Below w.heap.size w w2) := HBW.out.trans (hB2.mono HBW.out.size)
          clear hown2 hgrow2 hB2 hC2
          go_wp2_with fail
          refine (vtop_any kt F i _ w2 (by omega) HG2.out HSZ2.out (.inr ⟨g2, cap2, rfl, hgl2, HC2.out⟩)).mono ?_
          rintro e w3 ⟨rfl, hB3⟩
          have hT32 : (topT (ofT kt) i F).size = 32 := topT_size (ofT kt) 32 (ofT_size kt) i F HSZ.out
          have HC3 : Hid (Cl w3 g2 i (tI F)) := Cl.below HC2.out hB3 hgl2
          have HC03 : Hid (Cl w3 g i (tI F)) := Cl.below HC02.out hB3 hg02
          have hg03 : g < w3.heap.size := Nat.lt_of_lt_of_le hg02 hB3.size
          have hgl3 : g2 < w3.heap.size := Nat.lt_of_lt_of_le hgl2 hB3.size
          have HG3 : Hid (Gd kt w3) := HG2.out.below hB3
          have HBW3 : Hid (Below w.heap.size w w3) := HBW2.out.trans (hB3.mono HBW2.out.size)
          clear hB3
          obtain ⟨T, hTe⟩ : ∃ T, topT (ofT kt) i F = T := ⟨_, rfl⟩
          have HTE : Hid (topT (ofT kt) i F = T) := hTe
          rw [hTe] at hT32 ⊢
          clear hTe
          have hT45 : T.size ≤ 35184372088832 := by omega
          go_wp2_with fail
          refine (pick_any x i w3 (by omega) (by omega) hx0 hx1).mono ?_
          rintro e w3' ⟨rfl, rfl⟩
          have hj := pk_lt x i (by omega)
          obtain ⟨j, hje⟩ : ∃ j, pk x i = j := ⟨_, rfl⟩
          rw [hje] at hj ⊢
          clear hje hx0 hx1
          have HPT : Hid _ := vpath_any kt F i j g2 cap2 w3' hj (by omega) HG3.out HSZ2.out hgl3 HC3.out
          have hSl := path_len (ofT kt) i i F j (Nat.le_refl _)
          have hS63 := sides_lt 63 i j (by omega)
          have HS45 : Hid (∀ q, q < (pathT (ofT kt) i F j).length → (nth (pathT (ofT kt) i F j) q).size ≤ 35184372088832) := fun q hq => pathT_le (ofT kt) 35184372088832 (ofT_le kt) i i F j (Nat.le_refl _) HSZ2.out _ (nth_mem _ _ hq)
          obtain ⟨S, hSe⟩ : ∃ S, pathT (ofT kt) i F j = S := ⟨_, rfl⟩
          have HSE : Hid (pathT (ofT kt) i F j = S) := hSe
          rw [hSe] at HPT hSl HS45
          rw [← hSl] at hS63
          have HSL : Hid (S.length = (sidesT i j).length) := hSl
          clear hSl hSe
          go_wp2_with fail
          refine Calls.mono HPT.out ?_
          rintro e w4 ⟨p, rfl, hp, hRp, hB4⟩
          clear HPT
          have HRp : Hid (Rw w4 p S.length 9 (tI (nth S))) := hRp
          have hpl : p < w4.heap.size := hRp.lt
          have HC04 : Hid (Cl w4 g i (tI F)) := Cl.below HC03.out hB4 hg03
          have hg04 : g < w4.heap.size := Nat.lt_of_lt_of_le hg03 hB4.size
          have HG4 : Hid (Gd kt w4) := HG3.out.below hB4
          have HBW4 : Hid (Below w.heap.size w w4) := HBW3.out.trans (hB4.mono HBW3.out.size)
          have c4 : w4.cell? ⟨g, j, none⟩ = some (.string (F j)) := HC04.out j hj
          have HFj := HSZ2.out j hj
          have HF1 : Hid (fol (ofT kt) T i j (F j) S.length (nth S) = true) := by show fol _ T _ _ _ _ _ = true; rw [← HTE.out]; exact fol_leads _ _ _ _ _ hj HSE.out
          clear hRp hB4
          go_wp2_with fail
          refine (vfollows_any kt (nth S) i j S.length _ T (F j) w4 hj (by omega) (by omega) HG4.out HFj HS45.out (.inr ⟨p, S.length, rfl, hpl, HRp.out.cl⟩)).mono ?_
          rintro e w5 ⟨rfl, hB5⟩
          rw [HF1.out]
          have HRp5 : Hid (Rw w5 p S.length 9 (tI (nth S))) := HRp.out.below hB5 hpl
          have hpl5 : p < w5.heap.size := Nat.lt_of_lt_of_le hpl hB5.size
          have HC05 : Hid (Cl w5 g i (tI F)) := Cl.below HC04.out hB5 hg04
          have hg05 : g < w5.heap.size := Nat.lt_of_lt_of_le hg04 hB5.size
          have HG5 : Hid (Gd kt w5) := HG4.out.below hB5
          have HBW5 : Hid (Below w.heap.size w w5) := HBW4.out.trans (hB5.mono HBW4.out.size)
          have c5 : w5.cell? ⟨g, j, none⟩ = some (.string (F j)) := HC05.out j hj
          clear hB5 c4
          go_wp2
          have hm1 : S.length + 1 ≤ maxLen := by unfold maxLen; omega
          have hm2 : (S.length + 1) * 16 ≤ 140737488355328 := by omega
          have hj0 : (0 : Int) ≤ (j : Int) := by omega
          have hjn : (j : Int) < (i : Int) := by omega
          have hne5 := World.new_ne w5 _ c5
          have HL6 : Hid (∀ q, q < S.length + 1 → (nth (S ++ [T]) q).size ≤ 35184372088832) := nth_snoc S T _ hT45 HS45.out
          have HF2 : Hid (fol (ofT kt) T i j (F j) (S.length + 1) (nth (S ++ [T])) = false) := fol_long _ _ _ F _ _ _ _ HSE.out
          go_region_held3 (fun w' => w'.cell? ⟨g, j, none⟩ = some (.string (F j))) (go_keep) (first | (refine step_append_grows rfl (.tmp 80) (.tmp 82) 22 rfl 9 i0 (.string ⟨#[]⟩) 1 16 Tryd.underlying22 hi9 hz0 hz1 hz2 rfl (by decide) (some ⟨p, 0, none⟩) S.length S.length ((lst (nth S) S.length).map Value.string) (by simp [Act.eval]) (fun h => by cases h) (by simp [lst]) (fun b hb => by cases hb; exact cl_news (HRp5.out.alloc _).cl) ⟨w5.heap.size, 0, none⟩ 1 1 [.string T] (by simp [Act.eval]) rfl (by exact cell_one_new _ _ _) (str_one _) (by omega) hm1 hm2 ?_; intro v6 w6 hown6 hgrow6; have hB6 : Below w5.heap.size w5 w6 := ((Below.refl _ _).alloc (Nat.le_refl _) _).drew.grown hgrow6 (by show w5.heap.size ≤ (w5.alloc _).heap.size; simp) (fun _ h => by cases h); have c6 : w6.cell? ⟨g, j, none⟩ = some (.string (F j)) := (hB6.cell (p := ⟨g, j, none⟩) hg05).trans c5) | (go_at_call 9; refine (vfollows_any kt (nth (S ++ [T])) i j (S.length + 1) _ T (F j) _ hj (by omega) (by omega) (by exact HG5.out.below hB6) HFj HL6.out (by exact own_ls (L := S ++ [T]) (by rw [lst_nth] at hown6; simpa using hown6) (by simp))).mono ?_; rintro e w7 ⟨rfl, hB7⟩; have c7 : w7.cell? ⟨g, j, none⟩ = some (.string (F j)) := (hB7.cell (p := ⟨g, j, none⟩) (Nat.lt_of_lt_of_le hg05 hB6.size)).trans c6; rw [HF2.out]))
          have hB57 : Below w5.heap.size w5 w7 := hB6.trans (hB7.mono hB6.size)
          have HRp7 : Hid (Rw w7 p S.length 9 (tI (nth S))) := HRp5.out.below hB57 hpl5
          have hpl7 : p < w7.heap.size := Nat.lt_of_lt_of_le hpl5 hB57.size
          have HC07 : Hid (Cl w7 g i (tI F)) := Cl.below HC05.out hB57 hg05
          have hg07 : g < w7.heap.size := Nat.lt_of_lt_of_le hg05 hB57.size
          have HG7 : Hid (Gd kt w7) := HG5.out.below hB57
          have HBW7 : Hid (Below w.heap.size w w7) := HBW5.out.trans (hB57.mono HBW5.out.size)
          clear hB57 hB6 hB7 c6 c5 hown6 hgrow6 hne5
          go_wp2_with fail
          refine (vdigest_any kt o w7 ho HG7.out.tab HG7.out.one).mono ?_
          rintro e w8 ⟨rfl, hB8⟩
          have hd45 := ofT_le kt o
          obtain ⟨d, hde⟩ : ∃ d, ofT kt o = d := ⟨_, rfl⟩
          rw [hde] at hd45 ⊢
          clear hde
          have HRp8 : Hid (Rw w8 p S.length 9 (tI (nth S))) := HRp7.out.below hB8 hpl7
          have hpl8 : p < w8.heap.size := Nat.lt_of_lt_of_le hpl7 hB8.size
          have HC08 : Hid (Cl w8 g i (tI F)) := Cl.below HC07.out hB8 hg07
          have hg08 : g < w8.heap.size := Nat.lt_of_lt_of_le hg07 hB8.size
          have HG8 : Hid (Gd kt w8) := HG7.out.below hB8
          have HBW8 : Hid (Below w.heap.size w w8) := HBW7.out.trans (hB8.mono HBW7.out.size)
          clear hB8 c7
          go_wp2_with fail
          refine (vfollows_any kt (nth S) i j S.length _ T d w8 hj (by omega) (by omega) HG8.out hd45 HS45.out (.inr ⟨p, S.length, rfl, hpl8, HRp8.out.cl⟩)).mono ?_
          rintro e w9 ⟨rfl, hB9⟩
          have HRp9 : Hid (Rw w9 p S.length 9 (tI (nth S))) := HRp8.out.below hB9 hpl8
          have hpl9 : p < w9.heap.size := Nat.lt_of_lt_of_le hpl8 hB9.size
          have HC09 : Hid (Cl w9 g i (tI F)) := Cl.below HC08.out hB9 hg08
          have HG9 : Hid (Gd kt w9) := HG8.out.below hB9
          have HBW9 : Hid (Below w.heap.size w w9) := HBW8.out.trans (hB9.mono HBW8.out.size)
          have c9 : w9.cell? ⟨g, j, none⟩ = some (.string (F j)) := HC09.out j hj
          clear hB9
          have hts : ((T.size : Int) != 32) = false := by rw [hT32]; rfl
          by_cases hdl : d = F j
          · subst hdl
            generalize fol _ _ _ _ _ _ _ = X
            go_wp2
            go_ret
            exact ⟨rfl, HBW9.out⟩
          · have hdn : ¬ d.toList = (F j).toList := by intro h; exact hdl (by have := tl_beq d (F j); simpa [h] using this)
            have hdn' : (d.toList == (F j).toList) = false := by rw [tl_beq]; simpa using hdl
            by_cases hfo : fol (ofT kt) T i j d S.length (nth S) = true
            · have HEQ : Hid (climbT (ofT kt) (F j) (sidesT i j) (lst (nth S) S.length) = climbT (ofT kt) d (sidesT i j) (lst (nth S) S.length)) := fol_other _ _ _ F S d hj HSE.out (by rw [HTE.out]; exact hfo)
              rw [hfo]
              clear hfo
              go_wp2_with fail
              refine (joined_any kt (nth S) S.length i j (F j) d p S.length w9 hj (by omega) HSL.out.symm (Nat.le_refl _) (by omega) HG9.out hpl9 HFj hd45 HS45.out HRp9.out.cl (fun h => hdl h.symm) HEQ.out).mono ?_
              rintro e w10 ⟨rfl, hB10⟩
              have hB : Below w.heap.size w w10 := HBW9.out.trans (hB10.mono HBW9.out.size)
              clear hB10
              go_wp2
              go_ret
              exact ⟨rfl, hB⟩
            · have hfo' : fol (ofT kt) T i j d S.length (nth S) = false := by simpa using hfo
              rw [hfo']
              clear hfo hfo'
              go_wp2
              go_ret
              exact ⟨rfl, HBW9.out⟩
end Go.Proofs.YtnghgdficnkbbaaDoor
