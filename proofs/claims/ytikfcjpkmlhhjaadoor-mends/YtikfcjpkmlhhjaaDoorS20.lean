/-
  The walk of Mends.
-/
import Derived.Test.YtikfcjpkmlhhjaaDoorS19
import Derived.WalkKit
import Derived.WalkSpells
import Derived.WalkLawsBesides
import Derived.BigRegion
import Derived.BigQuiet
import Derived.Deep.QuietTactic
import Derived.Deep.RegionWith
import Derived.Deep.RegionHeld3
namespace Go.Proofs.YtikfcjpkmlhhjaaDoor
open Go.RowKit
set_option maxHeartbeats 1500000 in
set_option maxRecDepth 100000 in
theorem mends_any (a0 : Option Addr) (l0 c0 : Nat) (m ln : Int) (a3 : Option Addr) (l3 c3 : Nat) (w : World) (hT : Tab w 0 kt) (h1 : 1 ≤ w.heap.size)
    (hl0 : -9223372036854775808 ≤ ln) (hl1 : ln ≤ 9223372036854775807) (hm0 : -9223372036854775808 ≤ m) (hm1 : m ≤ 9223372036854775807)
    (hlen0 : l0 ≤ 140737488355328) (hlen3 : l3 ≤ 140737488355328)
    (hR : ∀ i, i < l0 → ∃ b off s, a0 = some ⟨b, off, none⟩ ∧ b < w.heap.size ∧ w.cell? ⟨b, off + i, none⟩ = some (.string s) ∧ s.size ≤ 140737488355328)
    (hG : ∀ i, i < l3 → ∃ b off x, a3 = some ⟨b, off, none⟩ ∧ b < w.heap.size ∧ w.cell? ⟨b, off + i, none⟩ = some (.int .i64 x) ∧ -9223372036854775808 ≤ x ∧ x ≤ 9223372036854775807) :
    Calls Tryd.prog 3 #[.slice a0 l0 c0, .int .i64 m, .int .i64 ln, .slice a3 l3 c3] w fun e w' => e = .returned (.bool true) ∧ Below w.heap.size w w' := by
  have HT : Hid _ := hT
  have HR : Hid _ := hR
  have HG : Hid _ := hG
  clear hT hR hG
  obtain ⟨i0, hi9, hz0, hz1, hz2⟩ := info_parts info9
  go_enter Tryd.func3, Tryd.ntmps3
  go_wp2_with fail
  refine (first_any w HT.out h1).mono ?_
  rintro e w1 ⟨rfl, hB1⟩
  clear HT h1
  go_wp2_with fail
  refine (pick_any ln 12 w1 (by decide) (by decide) hl0 hl1).mono ?_
  rintro e w2 ⟨rfl, rfl⟩
  obtain ⟨n0, hn0⟩ : ∃ n0, pk ln 12 = n0 := ⟨_, rfl⟩
  have hn1 : n0 < 12 := by rw [← hn0]; exact pk_lt _ _ (by decide)
  rw [hn0]
  clear hn0 hl0 hl1
  go_wp2
  obtain ⟨n, hn, hni⟩ : ∃ n : Nat, n = n0 + 1 ∧ (1 + (n0 : Int)) = (n : Int) := ⟨n0 + 1, rfl, by omega⟩
  have hn12 : n ≤ 12 := by omega
  have hn1' : 1 ≤ n := by omega
  rw [hni]
  clear hni hn hn1
  go_loopw [12, 11] (fun iv v wr => ∃ (i : Nat) (L : List ByteArray), i ≤ l0 ∧ i ≤ 8 ∧ iv = .int .i64 i ∧ L.length = i ∧ (∀ s ∈ L, s.size = n) ∧ wr.ownsRow w.heap.size 9 1 v i (L.map Value.string) ∧ Below w.heap.size w wr) (fun iv _ _ => 8 - (intOf iv).toNat)
  case atStart => exact ⟨0, [], by omega, by omega, rfl, rfl, by simp, World.ownsRow_nil _ _ _ _, hB1⟩
  case round =>
    obtain ⟨i, L, hil, hi8, rfl, hLl, hLs, hown, hbl⟩ := hrel
    obtain ⟨a1, cap1, hu⟩ := own_shape hown
    subst hu
    by_cases hlt : i < l0 ∧ i < 8
    · obtain ⟨hlt1, hlt2⟩ := hlt
      obtain ⟨b, off, s, ha0, hb, hc, hs⟩ := HR.out i hlt1
      subst ha0
      have c1 : wr.cell? ⟨b, off + i, none⟩ = some (.string s) := (hbl.cell (p := ⟨b, off + i, none⟩) hb).trans hc
      clear hc
      go_wp2_with (go_at_call 6; refine (some_any s n wr (by omega) hs).mono ?_; rintro e w' ⟨rfl, rfl⟩)
      have hss := smT_size s n
      obtain ⟨s1, hs1⟩ : ∃ s1, smT s n = s1 := ⟨_, rfl⟩
      rw [hs1] at hss ⊢
      clear hs1
      go_loop [13] (fun v => ∃ t : ByteArray, v = .string t ∧ t.size ≤ n) (fun v => n - szOf v)
      case atStart => exact ⟨s1, rfl, hss⟩
      case round =>
        obtain ⟨t, rfl, ht⟩ := hrel
        by_cases htn : t.size < n
        · go_wp2
          go_round
          case rel => exact ⟨_, rfl, by rw [ByteArray.size_append, size0]; omega⟩
          case measure => simp only [szOf]; rw [ByteArray.size_append, size0]; omega
        · have hte : Hid (t.size = n) := by show t.size = n; omega
          clear ht hss
          have hB' : w.heap.size ≤ (w'.alloc (Obj.cells #[Value.string t] 9)).heap.size := by have := hbl.size; simp; omega
          go_wp2_with (at_builtin; refine wpList_append_own_at _ rfl (.tmp 53) (.tmp 55) 22 rfl w.heap.size 9 i0 (.string ⟨#[]⟩) 1 16 Tryd.underlying22 hi9 hz0 hz1 hz2 rfl (by decide) _ i (L.map Value.string) rfl (hown.alloc _) ⟨w'.heap.size, 0, none⟩ 1 1 [.string t] rfl rfl (cell_one_new _ _ _) (str_one _) ?kb ?kc hB' ?_)
          case kb => unfold maxLen; omega
          case kc => omega
          intro v' w3 hown' hgrow _ _
          have hbl' : Below w.heap.size w w3 := (hbl.alloc hbl.size _).grown hgrow hB' (fun g hg => (own_lt hown g hg).1)
          have hown2 : w3.ownsRow w.heap.size 9 1 v' (i + 1) ((L ++ [t]).map Value.string) := by simpa using hown'
          clear hown' hgrow hown hbl hB'
          go_wp2
          go_roundw
          case rel => exact ⟨i + 1, L ++ [t], by omega, by omega, by go_num, by simp [hLl], fun s hs => by
            rcases List.mem_append.1 hs with hs | hs
            · exact hLs s hs
            · simp at hs; rw [hs]; exact hte.out, hown2, hbl'⟩
          case measure => simp [intOf]; omega
    · have hend : (i = 0 ∧ l0 = 0) ∨ (0 < i ∧ l0 = i) ∨ (i = 8 ∧ 8 < l0) := by omega
      clear hlt HR
      rcases hend with ⟨h5, h6⟩ | ⟨h5, h6⟩ | ⟨h5, h6⟩
      · subst h5
        subst h6
        clear hLs
        have hfull := smT_full ⟨#[97, 98, 99, 100, 101, 102, 103, 104, 105, 106, 107, 108]⟩ n hn12
        obtain ⟨t, htt⟩ : ∃ t, smT ⟨#[97, 98, 99, 100, 101, 102, 103, 104, 105, 106, 107, 108]⟩ n = t := ⟨_, rfl⟩
        have hsome := some_any ⟨#[97, 98, 99, 100, 101, 102, 103, 104, 105, 106, 107, 108]⟩ n wr (by omega) (by decide)
        rw [htt] at hfull hsome
        have HSM : Hid _ := hsome
        clear htt hsome
        have hB' : w.heap.size ≤ (wr.alloc (Obj.cells #[Value.string t] 9)).heap.size := by have := hbl.size; simp; omega
        go_wp2_with fail
        refine Calls.mono HSM.out ?_
        rintro e w' ⟨rfl, rfl⟩
        go_wp2_with (at_builtin; refine wpList_append_own_at _ rfl (.tmp 60) (.tmp 63) 22 rfl w.heap.size 9 i0 (.string ⟨#[]⟩) 1 16 Tryd.underlying22 hi9 hz0 hz1 hz2 rfl (by decide) _ 0 (L.map Value.string) rfl (hown.alloc _) ⟨w'.heap.size, 0, none⟩ 1 1 [.string t] rfl rfl (cell_one_new _ _ _) (str_one _) ?kb ?kc hB' ?_)
        case kb => unfold maxLen; omega
        case kc => omega
        intro v' wd hown' hgrow _ _
        have hbd : Below w.heap.size w wd := (hbl.alloc hbl.size _).grown hgrow hB' (fun g hg => (own_lt hown g hg).1)
        have hL0 : L = [] := List.eq_nil_of_length_eq_zero hLl
        obtain ⟨k, D, hk, hD, hownd⟩ : ∃ (k : Nat) (D : List ByteArray), k = 1 ∧ D = [t] ∧ wd.ownsRow w.heap.size 9 1 v' k (D.map Value.string) := ⟨1, [t], rfl, rfl, by rw [hL0] at hown'; simpa using hown'⟩
        clear hown' hgrow hown hbl hB' hL0 hLl
        have hDl : D.length = k := by rw [hD, hk]; rfl
        have hDs : ∀ s ∈ D, s.size = n := by rw [hD]; intro s hs; simp at hs; rw [hs]; exact hfull
        have hk1 : 1 ≤ k := by omega
        have hk8 : k ≤ 8 := by omega
        clear hD hk
        obtain ⟨gd, capd, hvd, hgd1, hgd2, hCd⟩ := own_strs hownd hk1 hDl
        subst hvd
        clear hownd
        go_wp2_with fail
        refine (pick_any m 6 wd (by decide) (by decide) hm0 hm1).mono ?_
        rintro e wp ⟨rfl, rfl⟩
        obtain ⟨x, hx⟩ : ∃ x, pk m 6 = x := ⟨_, rfl⟩
        have hx6 : x < 6 := by rw [← hx]; exact pk_lt _ _ (by decide)
        rw [hx]
        clear hx hm0 hm1
        obtain ⟨S, hS⟩ : ∃ S, nth D = S := ⟨_, rfl⟩
        have hSs : ∀ i, i < k → (S i).size = n := fun i hi => by rw [← hS]; exact hDs _ (nth_mem _ _ (by rw [hDl]; exact hi))
        rw [hS] at hCd
        have HCd : Hid _ := hCd
        have HSs : Hid _ := hSs
        clear hS hCd hSs hDs hDl
        go_wp2_with fail
        refine (vparity_ok S k x n gd _ wp hk1 (by omega) (by omega) HSs.out hgd2 HCd.out).mono ?_
        rintro e w4 ⟨gp, rfl, hgp, hRp, hB4⟩
        have hCd4 : Cl w4 gd k (tI S) := Cl.below HCd.out hB4 hgd2
        have hb4 : Below w.heap.size w w4 := hbd.trans (hB4.mono hbd.size)
        have hgp4 := hRp.lt
        obtain ⟨P, hP⟩ : ∃ P, vl (fun i => i) (fun i => k + i) k n S = P := ⟨_, rfl⟩
        rw [hP] at hRp
        have HP : Hid _ := hP
        have HRp : Hid _ := hRp
        have HCd4 : Hid _ := hCd4
        clear hCd4 hRp HCd hbd hB4 hP hgd2 hgd1 hgp
        obtain ⟨N, hN⟩ : ∃ N : Nat, N = k + x := ⟨_, rfl⟩
        have hni : ((k : Nat) : Int) + (x : Int) = (N : Int) := by omega
        have hN13 : N ≤ 13 := by omega
        have hN1 : 1 ≤ N := by omega
        have HN : Hid _ := hN
        clear hN
        have hmk1 := run_make_row' (P := Tryd.prog) 31 4 (.bool false) 1 Tryd.underlying31 info4 rfl .i64 .i64 N (by omega) (by omega)
        have hmk2 := run_make_row' (P := Tryd.prog) 22 9 (.string ⟨#[]⟩) 16 Tryd.underlying22 info9 rfl .i64 .i64 N (by omega) (by omega)
        go_wp2_with (at_builtin; refine wpList_append_own_at _ rfl (.tmp 88) (.tmp 89) 22 rfl w4.heap.size 9 i0 (.string ⟨#[]⟩) 1 16 Tryd.underlying22 hi9 hz0 hz1 hz2 rfl (by decide) _ 0 [] rfl (World.ownsRow_nil _ _ _ _) ⟨gd, 0, none⟩ k _ ((lst S k).map Value.string) rfl (by simp [lst_len]) (cl_news HCd4.out) (strs_one _) ?kb ?kc (Nat.le_refl _) ?_)
        case kb => unfold maxLen; omega
        case kc => omega
        intro v1 w5 ho1' hg1 _ _
        have hB5 : Below w4.heap.size w4 w5 := (Below.refl _ _).grown hg1 (Nat.le_refl _) (fun g hg => by simp [Value.ownBlock] at hg)
        have ho1 : w5.ownsRow w4.heap.size 9 1 v1 k ((lst S k).map Value.string) := by simpa using ho1'
        obtain ⟨g1, capq, hv1, hg11, hg12, _⟩ := own_strs ho1 hk1 (lst_len _ _)
        subst hv1
        have hP5 : Cl w5 gp x (tI P) := (Rw.below HRp.out hB5 hgp4).cl
        clear ho1' hg1 HCd4
        go_wp2_with (at_builtin; refine wpList_append_own_at _ rfl (.tmp 91) (.tmp 92) 22 rfl w4.heap.size 9 i0 (.string ⟨#[]⟩) 1 16 Tryd.underlying22 hi9 hz0 hz1 hz2 rfl (by decide) _ k ((lst S k).map Value.string) rfl ho1 ⟨gp, 0, none⟩ x _ ((lst P x).map Value.string) rfl (by simp [lst_len]) (cl_news hP5) (strs_one _) ?kb ?kc hB5.size ?_)
        case kb => unfold maxLen; omega
        case kc => omega
        intro v2 w6 ho2' hg2 _ _
        have hB6 : Below w4.heap.size w4 w6 := hB5.grown hg2 hB5.size (fun g hg => (own_lt ho1 g hg).1)
        have ho2 : w6.ownsRow w4.heap.size 9 1 v2 N ((lst S k ++ lst P x).map Value.string) := by rw [HN.out, List.map_append]; exact ho2'
        obtain ⟨ga, capa, hv2, hga1, hga2, hCa'⟩ := own_strs ho2 (by omega) (by rw [List.length_append, lst_len, lst_len, HN.out])
        subst hv2
        obtain ⟨A, hA⟩ : ∃ A, allS S k n = A := ⟨_, rfl⟩
        have hCa : Cl w6 ga N (tI A) := fun i hi => by rw [hCa' i hi]; unfold tI; rw [← hA, ← HP.out, nth_all S k x n i (by have := HN.out; omega)]
        have HA : Hid _ := hA
        have HCa : Hid _ := hCa
        have hb6 : Below w.heap.size w w6 := hb4.trans (hB6.mono hb4.size)
        have hsz6 := hb6.size
        clear ho2' hg2 ho1 ho2 hCa' hCa hA hB5 hB6 hb4 hP5 HP HRp hga1 hg11 hg12 hgp4
        go_wp2
        go_loopw [21] (fun iv wr => ∃ i : Nat, i ≤ N ∧ iv = .int .i64 i ∧ Rw wr w6.heap.size N 4 (part' i (fun _ => .bool true) (.bool false)) ∧ Rw wr (w6.heap.size + 1) N 9 (part' i (tI A) (.string ⟨#[]⟩)) ∧ Cl wr ga N (tI A) ∧ Below w.heap.size w wr) (fun iv _ => N - (intOf iv).toNat)
        case atStart =>
          refine ⟨0, by omega, rfl, ?_, ?_, ?_, ?_⟩
          · exact ((Rw.made w6 N 4 (.bool false)).alloc _).to (fun j _ => (part_0 _ _ j).symm)
          · have := Rw.made (w6.alloc (.cells (madeCells #[.bool false] N) 4)) N 9 (.string ⟨#[]⟩)
            have e : (w6.alloc (.cells (madeCells #[.bool false] N) 4)).heap.size = w6.heap.size + 1 := by simp
            rw [e] at this
            exact this.to (fun j _ => (part_0 _ _ j).symm)
          · exact Cl.below HCa.out (((Below.refl _ _).alloc (Nat.le_refl _) _).alloc (by simp) _) hga2
          · exact (hb6.alloc hb6.size _).alloc (by simp; omega) _
        case round =>
          clear HCa
          obtain ⟨i, hiN, rfl, hH, hBk, hCr, hbr⟩ := hrel
          have hne1 : ga ≠ w6.heap.size := by omega
          have hne2 : ga ≠ w6.heap.size + 1 := by omega
          by_cases hlt : i < N
          · have c1 := hH.cell i hlt
            have c2 := hH.free i
            have hBk1 := hBk.other ⟨w6.heap.size, i, none⟩ (.bool true) (by simp)
            have hCr1 := Cl.put hCr ⟨w6.heap.size, i, none⟩ (.bool true) hne1
            have c3 := hBk1.cell i hlt
            have c4 := hBk1.free i
            have c5 : (wr.setCell ⟨w6.heap.size, i, none⟩ (.bool true)).cell? ⟨ga, i, none⟩ = some (.string (A i)) := hCr1 i hlt
            have HCr : Hid _ := hCr1
            clear hCr hCr1
            go_wp2
            go_roundw
            case rel => exact ⟨i + 1, by omega, by go_num, ((hH.put i _).other _ _ (by simp)).to (fun j _ => by rw [← part_step]), (hBk1.put i _).to (fun j _ => by rw [← part_step]; rfl), Cl.put HCr.out _ _ hne2, (hbr.setCell hsz6 _).setCell (by show w.heap.size ≤ w6.heap.size + 1; omega) _⟩
            case measure => simp [intOf]; omega
          · have e : N = i := by omega
            subst e
            have HCr : Hid _ := hCr
            clear hCr hiN hlt
            go_wp2
            go_loopw [22] (fun iv wr => ∃ (i : Nat) (h : Nat → Bool) (F : Nat → ByteArray), i ≤ l3 ∧ i ≤ x ∧ iv = .int .i64 i ∧ N ≤ cnt h N + i ∧ (∀ j, j < N → h j = true → F j = A j) ∧ Rw wr w6.heap.size N 4 (bI h) ∧ Rw wr (w6.heap.size + 1) N 9 (tI F) ∧ Cl wr ga N (tI A) ∧ Below w.heap.size w wr) (fun iv _ => x - (intOf iv).toNat)
            case atStart => exact ⟨0, fun _ => true, A, by omega, by omega, rfl, by rw [cnt_all]; omega, fun _ _ _ => rfl, hH.to (fun j hj => by simp [part', hj, bI]), hBk.to (fun j hj => by simp [part', hj]), HCr.out, hbr⟩
            case round =>
              clear hH hBk HCr hbr
              obtain ⟨i, h, F, hi1, hi2, rfl, hcnt, hF, hH, hBk, hCr, hbr⟩ := hrel
              have HF : Hid _ := hF
              have HCr : Hid _ := hCr
              have HCn : Hid _ := hcnt
              clear hF hCr hcnt
              by_cases hlt : i < l3 ∧ i < x
              · obtain ⟨hlt1, hlt2⟩ := hlt
                obtain ⟨b, off, y, ha3, hb, hc, hy0, hy1⟩ := HG.out i hlt1
                subst ha3
                have c1 : wr.cell? ⟨b, off + i, none⟩ = some (.int .i64 y) := (hbr.cell (p := ⟨b, off + i, none⟩) hb).trans hc
                clear hc
                have hp1 := fun W => pick_any y N W (by omega) (by omega) hy0 hy1
                have hp2 := fun W => pick_any y 16 W (by decide) (by decide) hy0 hy1
                obtain ⟨z, hz⟩ : ∃ z, pk y N = z := ⟨_, rfl⟩
                have hzN : z < N := by rw [← hz]; exact pk_lt _ _ hN1
                obtain ⟨q, hq⟩ : ∃ q, pk y 16 = q := ⟨_, rfl⟩
                have hq16 : q < 16 := by rw [← hq]; exact pk_lt _ _ (by decide)
                rw [hz] at hp1
                rw [hq] at hp2
                have hsm := fun W => some_any ⟨#[110, 111, 32, 98, 108, 111, 99, 107, 32, 97, 116, 32, 97, 108, 108]⟩ q W (by omega) (by decide)
                obtain ⟨t, ht⟩ : ∃ t, smT ⟨#[110, 111, 32, 98, 108, 111, 99, 107, 32, 97, 116, 32, 97, 108, 108]⟩ q = t := ⟨_, rfl⟩
                rw [ht] at hsm
                have HP1 : Hid _ := hp1
                have HP2 : Hid _ := hp2
                have HSM : Hid _ := hsm
                clear hp1 hp2 hsm hz hq ht hy0 hy1
                go_wp2_with fail
                refine (HP1.out wr).mono ?_
                rintro e wr2 ⟨rfl, rfl⟩
                have c2 := hH.cell z hzN
                have c3 := hH.free z
                have hBk1 := hBk.other ⟨w6.heap.size, z, none⟩ (.bool false) (by simp)
                have hCr1 := Cl.put HCr.out ⟨w6.heap.size, z, none⟩ (.bool false) hne1
                have c4 := hBk1.cell z hzN
                have c5 := hBk1.free z
                have hbne : b ≠ w6.heap.size := by omega
                have c6 : (wr2.setCell ⟨w6.heap.size, z, none⟩ (.bool false)).cell? ⟨b, off + i, none⟩ = some (.int .i64 y) :=
                  (World.cell?_of_block (a := ⟨b, off + i, none⟩) (heap_setCell_other wr2 ⟨w6.heap.size, z, none⟩ b (.bool false) hbne)).trans c1
                have HCr1 : Hid _ := hCr1
                clear hCr1 HCr
                have hz0' : (0 : Int) ≤ (z : Int) := by omega
                have hzN' : (z : Int) < (N : Int) := by omega
                go_wp2_with fail
                refine (HP2.out _).mono ?_
                rintro e wr3 ⟨rfl, hw3⟩
                subst hw3
                go_wp2_with fail
                refine (HSM.out _).mono ?_
                rintro e wr4 ⟨rfl, hw4⟩
                subst hw4
                go_wp2
                go_roundw
                case rel =>
                  refine ⟨i + 1, updB h z false, updT F z t, by omega, by omega, by go_num, ?_, ?_, ?_, ?_, Cl.put HCr1.out _ _ hne2, (hbr.setCell hsz6 _).setCell (by show w.heap.size ≤ w6.heap.size + 1; omega) _⟩
                  · have := cnt_upd h z N; have := HCn.out; omega
                  · intro j hj hjt
                    unfold updB at hjt
                    by_cases e : j = z
                    · rw [if_pos e] at hjt; cases hjt
                    · rw [if_neg e] at hjt; rw [updT_ne F z t j e]; exact HF.out j hj hjt
                  · exact ((hH.put z _).other _ _ (by simp)).to (fun j _ => by unfold updV bI updB; split <;> rfl)
                  · exact (hBk1.put z _).to (fun j _ => tI_upd F z t j)
                case measure => simp [intOf]; omega
              · have hcx : k ≤ cnt h N := by have := HCn.out; have := HN.out; omega
                obtain ⟨j0, hj0, hj1, hj2⟩ := cnt_first h N (by omega)
                have hK : (knL h k N).length = k := by rw [knL_cnt]; omega
                have hFs : ∀ j, j < N → h j = true → (F j).size = n := fun j hj hjt => by rw [HF.out j hj hjt, ← HA.out]; exact allS_size S k n j HSs.out
                have hfil : ∀ j, j < N → filled F (gt (knL h k N)) (gt (wnL h k N)) k (wnL h k N).length n j = .string (A j) := by
                  have := filled_all S F h k x n (by omega) HSs.out (fun j hj hjt => by rw [HF.out j (by rw [HN.out]; exact hj) hjt, HA.out]) (by rw [← HN.out]; exact hK)
                  rw [← HN.out] at this
                  intro j hj
                  rw [this j hj, HA.out]
                have hv := vrestore_ok F h k x n (w6.heap.size + 1) N w6.heap.size N j0 wr hk1 (by omega) (by omega) (by rw [← HN.out]; exact hj0) hj1 hj2 (by rw [← HN.out]; exact hFs) (by rw [← HN.out]; exact hK) hBk.lt hH.lt (by rw [← HN.out]; exact hBk.cl) (by rw [← HN.out]; exact hH.cl)
                rw [← HN.out] at hv
                have HV : Hid _ := hv
                have HFIL : Hid _ := hfil
                have hgar : ga < wr.heap.size := by have := hH.lt; omega
                clear hv hfil hFs hK hj1 hj2 hcx HF HCn HA HSs HG hBk hH
                have hend : (¬ ((i : Int) < (l3 : Int))) ∨ (((i : Int) < (l3 : Int)) ∧ ¬ ((i : Int) < (x : Int))) := by omega
                clear hlt
                rcases hend with h5 | ⟨h5, h6⟩
                all_goals
                  go_wp2_with fail
                  refine Calls.mono HV.out ?_
                  rintro e w7 ⟨gr, rfl, hgr, hRr, hB7⟩
                  have hRA : Cl w7 gr N (tI A) := fun j hj => by rw [hRr.cell j hj, HFIL.out j hj]; rfl
                  have hCA : Cl w7 ga N (tI A) := Cl.below HCr.out hB7 hgar
                  have HRA : Hid _ := hRA
                  have HCA : Hid _ := hCA
                  clear hRA hCA hRr
                  go_wp2_with fail
                  refine (same_any A A N gr N ga capa w7 (by omega) HRA.out HCA.out (fun _ _ => rfl)).mono ?_
                  rintro e w8 ⟨rfl, hB8⟩
                  go_wp2
                  go_ret
                  exact ⟨rfl, (hbr.trans (hB7.mono hbr.size)).trans (hB8.mono (Nat.le_trans hbr.size hB7.size))⟩
      · subst h6
        have hk1 : 1 ≤ l0 := by omega
        have hk8 : l0 ≤ 8 := hi8
        obtain ⟨gd, capd, hvd, hgd1, hgd2, hCd⟩ := own_strs hown hk1 hLl
        cases hvd
        clear hown hil hi8
        have hbd := hbl
        clear hbl
        go_wp2_with fail
        refine (pick_any m 6 wr (by decide) (by decide) hm0 hm1).mono ?_
        rintro e wp ⟨rfl, rfl⟩
        obtain ⟨x, hx⟩ : ∃ x, pk m 6 = x := ⟨_, rfl⟩
        have hx6 : x < 6 := by rw [← hx]; exact pk_lt _ _ (by decide)
        rw [hx]
        clear hx hm0 hm1
        obtain ⟨S, hS⟩ : ∃ S, nth L = S := ⟨_, rfl⟩
        have hSs : ∀ i, i < l0 → (S i).size = n := fun i hi => by rw [← hS]; exact hLs _ (nth_mem _ _ (by rw [hLl]; exact hi))
        rw [hS] at hCd
        have HCd : Hid _ := hCd
        have HSs : Hid _ := hSs
        clear hS hCd hSs hLs hLl
        go_wp2_with fail
        refine (vparity_ok S l0 x n gd _ wp hk1 (by omega) (by omega) HSs.out hgd2 HCd.out).mono ?_
        rintro e w4 ⟨gp, rfl, hgp, hRp, hB4⟩
        have hCd4 : Cl w4 gd l0 (tI S) := Cl.below HCd.out hB4 hgd2
        have hb4 : Below w.heap.size w w4 := hbd.trans (hB4.mono hbd.size)
        have hgp4 := hRp.lt
        obtain ⟨P, hP⟩ : ∃ P, vl (fun i => i) (fun i => l0 + i) l0 n S = P := ⟨_, rfl⟩
        rw [hP] at hRp
        have HP : Hid _ := hP
        have HRp : Hid _ := hRp
        have HCd4 : Hid _ := hCd4
        clear hCd4 hRp HCd hbd hB4 hP hgd2 hgd1 hgp
        obtain ⟨N, hN⟩ : ∃ N : Nat, N = l0 + x := ⟨_, rfl⟩
        have hni : ((l0 : Nat) : Int) + (x : Int) = (N : Int) := by omega
        have hN13 : N ≤ 13 := by omega
        have hN1 : 1 ≤ N := by omega
        have HN : Hid _ := hN
        clear hN
        have hmk1 := run_make_row' (P := Tryd.prog) 31 4 (.bool false) 1 Tryd.underlying31 info4 rfl .i64 .i64 N (by omega) (by omega)
        have hmk2 := run_make_row' (P := Tryd.prog) 22 9 (.string ⟨#[]⟩) 16 Tryd.underlying22 info9 rfl .i64 .i64 N (by omega) (by omega)
        go_wp2_with (at_builtin; refine wpList_append_own_at _ rfl (.tmp 88) (.tmp 89) 22 rfl w4.heap.size 9 i0 (.string ⟨#[]⟩) 1 16 Tryd.underlying22 hi9 hz0 hz1 hz2 rfl (by decide) _ 0 [] rfl (World.ownsRow_nil _ _ _ _) ⟨gd, 0, none⟩ l0 _ ((lst S l0).map Value.string) rfl (by simp [lst_len]) (cl_news HCd4.out) (strs_one _) ?kb ?kc (Nat.le_refl _) ?_)
        case kb => unfold maxLen; omega
        case kc => omega
        intro v1 w5 ho1' hg1 _ _
        have hB5 : Below w4.heap.size w4 w5 := (Below.refl _ _).grown hg1 (Nat.le_refl _) (fun g hg => by simp [Value.ownBlock] at hg)
        have ho1 : w5.ownsRow w4.heap.size 9 1 v1 l0 ((lst S l0).map Value.string) := by simpa using ho1'
        obtain ⟨g1, capq, hv1, hg11, hg12, _⟩ := own_strs ho1 hk1 (lst_len _ _)
        subst hv1
        have hP5 : Cl w5 gp x (tI P) := (Rw.below HRp.out hB5 hgp4).cl
        clear ho1' hg1 HCd4
        go_wp2_with (at_builtin; refine wpList_append_own_at _ rfl (.tmp 91) (.tmp 92) 22 rfl w4.heap.size 9 i0 (.string ⟨#[]⟩) 1 16 Tryd.underlying22 hi9 hz0 hz1 hz2 rfl (by decide) _ l0 ((lst S l0).map Value.string) rfl ho1 ⟨gp, 0, none⟩ x _ ((lst P x).map Value.string) rfl (by simp [lst_len]) (cl_news hP5) (strs_one _) ?kb ?kc hB5.size ?_)
        case kb => unfold maxLen; omega
        case kc => omega
        intro v2 w6 ho2' hg2 _ _
        have hB6 : Below w4.heap.size w4 w6 := hB5.grown hg2 hB5.size (fun g hg => (own_lt ho1 g hg).1)
        have ho2 : w6.ownsRow w4.heap.size 9 1 v2 N ((lst S l0 ++ lst P x).map Value.string) := by rw [HN.out, List.map_append]; exact ho2'
        obtain ⟨ga, capa, hv2, hga1, hga2, hCa'⟩ := own_strs ho2 (by omega) (by rw [List.length_append, lst_len, lst_len, HN.out])
        subst hv2
        obtain ⟨A, hA⟩ : ∃ A, allS S l0 n = A := ⟨_, rfl⟩
        have hCa : Cl w6 ga N (tI A) := fun i hi => by rw [hCa' i hi]; unfold tI; rw [← hA, ← HP.out, nth_all S l0 x n i (by have := HN.out; omega)]
        have HA : Hid _ := hA
        have HCa : Hid _ := hCa
        have hb6 : Below w.heap.size w w6 := hb4.trans (hB6.mono hb4.size)
        have hsz6 := hb6.size
        clear ho2' hg2 ho1 ho2 hCa' hCa hA hB5 hB6 hb4 hP5 HP HRp hga1 hg11 hg12 hgp4
        go_wp2
        go_loopw [21] (fun iv wr => ∃ i : Nat, i ≤ N ∧ iv = .int .i64 i ∧ Rw wr w6.heap.size N 4 (part' i (fun _ => .bool true) (.bool false)) ∧ Rw wr (w6.heap.size + 1) N 9 (part' i (tI A) (.string ⟨#[]⟩)) ∧ Cl wr ga N (tI A) ∧ Below w.heap.size w wr) (fun iv _ => N - (intOf iv).toNat)
        case atStart =>
          refine ⟨0, by omega, rfl, ?_, ?_, ?_, ?_⟩
          · exact ((Rw.made w6 N 4 (.bool false)).alloc _).to (fun j _ => (part_0 _ _ j).symm)
          · have := Rw.made (w6.alloc (.cells (madeCells #[.bool false] N) 4)) N 9 (.string ⟨#[]⟩)
            have e : (w6.alloc (.cells (madeCells #[.bool false] N) 4)).heap.size = w6.heap.size + 1 := by simp
            rw [e] at this
            exact this.to (fun j _ => (part_0 _ _ j).symm)
          · exact Cl.below HCa.out (((Below.refl _ _).alloc (Nat.le_refl _) _).alloc (by simp) _) hga2
          · exact (hb6.alloc hb6.size _).alloc (by simp; omega) _
        case round =>
          clear HCa
          obtain ⟨i, hiN, rfl, hH, hBk, hCr, hbr⟩ := hrel
          have hne1 : ga ≠ w6.heap.size := by omega
          have hne2 : ga ≠ w6.heap.size + 1 := by omega
          by_cases hlt : i < N
          · have c1 := hH.cell i hlt
            have c2 := hH.free i
            have hBk1 := hBk.other ⟨w6.heap.size, i, none⟩ (.bool true) (by simp)
            have hCr1 := Cl.put hCr ⟨w6.heap.size, i, none⟩ (.bool true) hne1
            have c3 := hBk1.cell i hlt
            have c4 := hBk1.free i
            have c5 : (wr.setCell ⟨w6.heap.size, i, none⟩ (.bool true)).cell? ⟨ga, i, none⟩ = some (.string (A i)) := hCr1 i hlt
            have HCr : Hid _ := hCr1
            clear hCr hCr1
            go_wp2
            go_roundw
            case rel => exact ⟨i + 1, by omega, by go_num, ((hH.put i _).other _ _ (by simp)).to (fun j _ => by rw [← part_step]), (hBk1.put i _).to (fun j _ => by rw [← part_step]; rfl), Cl.put HCr.out _ _ hne2, (hbr.setCell hsz6 _).setCell (by show w.heap.size ≤ w6.heap.size + 1; omega) _⟩
            case measure => simp [intOf]; omega
          · have e : N = i := by omega
            subst e
            have HCr : Hid _ := hCr
            clear hCr hiN hlt
            go_wp2
            go_loopw [22] (fun iv wr => ∃ (i : Nat) (h : Nat → Bool) (F : Nat → ByteArray), i ≤ l3 ∧ i ≤ x ∧ iv = .int .i64 i ∧ N ≤ cnt h N + i ∧ (∀ j, j < N → h j = true → F j = A j) ∧ Rw wr w6.heap.size N 4 (bI h) ∧ Rw wr (w6.heap.size + 1) N 9 (tI F) ∧ Cl wr ga N (tI A) ∧ Below w.heap.size w wr) (fun iv _ => x - (intOf iv).toNat)
            case atStart => exact ⟨0, fun _ => true, A, by omega, by omega, rfl, by rw [cnt_all]; omega, fun _ _ _ => rfl, hH.to (fun j hj => by simp [part', hj, bI]), hBk.to (fun j hj => by simp [part', hj]), HCr.out, hbr⟩
            case round =>
              clear hH hBk HCr hbr
              obtain ⟨i, h, F, hi1, hi2, rfl, hcnt, hF, hH, hBk, hCr, hbr⟩ := hrel
              have HF : Hid _ := hF
              have HCr : Hid _ := hCr
              have HCn : Hid _ := hcnt
              clear hF hCr hcnt
              by_cases hlt : i < l3 ∧ i < x
              · obtain ⟨hlt1, hlt2⟩ := hlt
                obtain ⟨b, off, y, ha3, hb, hc, hy0, hy1⟩ := HG.out i hlt1
                subst ha3
                have c1 : wr.cell? ⟨b, off + i, none⟩ = some (.int .i64 y) := (hbr.cell (p := ⟨b, off + i, none⟩) hb).trans hc
                clear hc
                have hp1 := fun W => pick_any y N W (by omega) (by omega) hy0 hy1
                have hp2 := fun W => pick_any y 16 W (by decide) (by decide) hy0 hy1
                obtain ⟨z, hz⟩ : ∃ z, pk y N = z := ⟨_, rfl⟩
                have hzN : z < N := by rw [← hz]; exact pk_lt _ _ hN1
                obtain ⟨q, hq⟩ : ∃ q, pk y 16 = q := ⟨_, rfl⟩
                have hq16 : q < 16 := by rw [← hq]; exact pk_lt _ _ (by decide)
                rw [hz] at hp1
                rw [hq] at hp2
                have hsm := fun W => some_any ⟨#[110, 111, 32, 98, 108, 111, 99, 107, 32, 97, 116, 32, 97, 108, 108]⟩ q W (by omega) (by decide)
                obtain ⟨t, ht⟩ : ∃ t, smT ⟨#[110, 111, 32, 98, 108, 111, 99, 107, 32, 97, 116, 32, 97, 108, 108]⟩ q = t := ⟨_, rfl⟩
                rw [ht] at hsm
                have HP1 : Hid _ := hp1
                have HP2 : Hid _ := hp2
                have HSM : Hid _ := hsm
                clear hp1 hp2 hsm hz hq ht hy0 hy1
                go_wp2_with fail
                refine (HP1.out wr).mono ?_
                rintro e wr2 ⟨rfl, rfl⟩
                have c2 := hH.cell z hzN
                have c3 := hH.free z
                have hBk1 := hBk.other ⟨w6.heap.size, z, none⟩ (.bool false) (by simp)
                have hCr1 := Cl.put HCr.out ⟨w6.heap.size, z, none⟩ (.bool false) hne1
                have c4 := hBk1.cell z hzN
                have c5 := hBk1.free z
                have hbne : b ≠ w6.heap.size := by omega
                have c6 : (wr2.setCell ⟨w6.heap.size, z, none⟩ (.bool false)).cell? ⟨b, off + i, none⟩ = some (.int .i64 y) :=
                  (World.cell?_of_block (a := ⟨b, off + i, none⟩) (heap_setCell_other wr2 ⟨w6.heap.size, z, none⟩ b (.bool false) hbne)).trans c1
                have HCr1 : Hid _ := hCr1
                clear hCr1 HCr
                have hz0' : (0 : Int) ≤ (z : Int) := by omega
                have hzN' : (z : Int) < (N : Int) := by omega
                go_wp2_with fail
                refine (HP2.out _).mono ?_
                rintro e wr3 ⟨rfl, hw3⟩
                subst hw3
                go_wp2_with fail
                refine (HSM.out _).mono ?_
                rintro e wr4 ⟨rfl, hw4⟩
                subst hw4
                go_wp2
                go_roundw
                case rel =>
                  refine ⟨i + 1, updB h z false, updT F z t, by omega, by omega, by go_num, ?_, ?_, ?_, ?_, Cl.put HCr1.out _ _ hne2, (hbr.setCell hsz6 _).setCell (by show w.heap.size ≤ w6.heap.size + 1; omega) _⟩
                  · have := cnt_upd h z N; have := HCn.out; omega
                  · intro j hj hjt
                    unfold updB at hjt
                    by_cases e : j = z
                    · rw [if_pos e] at hjt; cases hjt
                    · rw [if_neg e] at hjt; rw [updT_ne F z t j e]; exact HF.out j hj hjt
                  · exact ((hH.put z _).other _ _ (by simp)).to (fun j _ => by unfold updV bI updB; split <;> rfl)
                  · exact (hBk1.put z _).to (fun j _ => tI_upd F z t j)
                case measure => simp [intOf]; omega
              · have hcx : l0 ≤ cnt h N := by have := HCn.out; have := HN.out; omega
                obtain ⟨j0, hj0, hj1, hj2⟩ := cnt_first h N (by omega)
                have hK : (knL h l0 N).length = l0 := by rw [knL_cnt]; omega
                have hFs : ∀ j, j < N → h j = true → (F j).size = n := fun j hj hjt => by rw [HF.out j hj hjt, ← HA.out]; exact allS_size S l0 n j HSs.out
                have hfil : ∀ j, j < N → filled F (gt (knL h l0 N)) (gt (wnL h l0 N)) l0 (wnL h l0 N).length n j = .string (A j) := by
                  have := filled_all S F h l0 x n (by omega) HSs.out (fun j hj hjt => by rw [HF.out j (by rw [HN.out]; exact hj) hjt, HA.out]) (by rw [← HN.out]; exact hK)
                  rw [← HN.out] at this
                  intro j hj
                  rw [this j hj, HA.out]
                have hv := vrestore_ok F h l0 x n (w6.heap.size + 1) N w6.heap.size N j0 wr hk1 (by omega) (by omega) (by rw [← HN.out]; exact hj0) hj1 hj2 (by rw [← HN.out]; exact hFs) (by rw [← HN.out]; exact hK) hBk.lt hH.lt (by rw [← HN.out]; exact hBk.cl) (by rw [← HN.out]; exact hH.cl)
                rw [← HN.out] at hv
                have HV : Hid _ := hv
                have HFIL : Hid _ := hfil
                have hgar : ga < wr.heap.size := by have := hH.lt; omega
                clear hv hfil hFs hK hj1 hj2 hcx HF HCn HA HSs HG hBk hH
                have hend : (¬ ((i : Int) < (l3 : Int))) ∨ (((i : Int) < (l3 : Int)) ∧ ¬ ((i : Int) < (x : Int))) := by omega
                clear hlt
                rcases hend with h5 | ⟨h5, h6⟩
                all_goals
                  go_wp2_with fail
                  refine Calls.mono HV.out ?_
                  rintro e w7 ⟨gr, rfl, hgr, hRr, hB7⟩
                  have hRA : Cl w7 gr N (tI A) := fun j hj => by rw [hRr.cell j hj, HFIL.out j hj]; rfl
                  have hCA : Cl w7 ga N (tI A) := Cl.below HCr.out hB7 hgar
                  have HRA : Hid _ := hRA
                  have HCA : Hid _ := hCA
                  clear hRA hCA hRr
                  go_wp2_with fail
                  refine (same_any A A N gr N ga capa w7 (by omega) HRA.out HCA.out (fun _ _ => rfl)).mono ?_
                  rintro e w8 ⟨rfl, hB8⟩
                  go_wp2
                  go_ret
                  exact ⟨rfl, (hbr.trans (hB7.mono hbr.size)).trans (hB8.mono (Nat.le_trans hbr.size hB7.size))⟩
      · obtain ⟨kk, hkk⟩ : ∃ kk, kk = i := ⟨_, rfl⟩
        subst hkk
        have h7 : ¬ ((kk : Int) < 8) := by omega
        have h8 : (kk : Int) < (l0 : Int) := by omega
        have h9 : ¬ ((kk : Int) = 0) := by omega
        have hk1 : 1 ≤ kk := by omega
        obtain ⟨gd, capd, hvd, hgd1, hgd2, hCd⟩ := own_strs hown hk1 hLl
        cases hvd
        clear hown
        have hbd := hbl
        clear hbl h5 h6
        go_wp2_with fail
        refine (pick_any m 6 wr (by decide) (by decide) hm0 hm1).mono ?_
        rintro e wp ⟨rfl, rfl⟩
        obtain ⟨x, hx⟩ : ∃ x, pk m 6 = x := ⟨_, rfl⟩
        have hx6 : x < 6 := by rw [← hx]; exact pk_lt _ _ (by decide)
        rw [hx]
        clear hx hm0 hm1
        obtain ⟨S, hS⟩ : ∃ S, nth L = S := ⟨_, rfl⟩
        have hSs : ∀ i, i < kk → (S i).size = n := fun i hi => by rw [← hS]; exact hLs _ (nth_mem _ _ (by rw [hLl]; exact hi))
        rw [hS] at hCd
        have HCd : Hid _ := hCd
        have HSs : Hid _ := hSs
        clear hS hCd hSs hLs hLl
        go_wp2_with fail
        refine (vparity_ok S kk x n gd _ wp hk1 (by omega) (by omega) HSs.out hgd2 HCd.out).mono ?_
        rintro e w4 ⟨gp, rfl, hgp, hRp, hB4⟩
        have hCd4 : Cl w4 gd kk (tI S) := Cl.below HCd.out hB4 hgd2
        have hb4 : Below w.heap.size w w4 := hbd.trans (hB4.mono hbd.size)
        have hgp4 := hRp.lt
        obtain ⟨P, hP⟩ : ∃ P, vl (fun i => i) (fun i => kk + i) kk n S = P := ⟨_, rfl⟩
        rw [hP] at hRp
        have HP : Hid _ := hP
        have HRp : Hid _ := hRp
        have HCd4 : Hid _ := hCd4
        clear hCd4 hRp HCd hbd hB4 hP hgd2 hgd1 hgp
        obtain ⟨N, hN⟩ : ∃ N : Nat, N = kk + x := ⟨_, rfl⟩
        have hni : ((kk : Nat) : Int) + (x : Int) = (N : Int) := by omega
        have hN13 : N ≤ 13 := by omega
        have hN1 : 1 ≤ N := by omega
        have HN : Hid _ := hN
        clear hN
        have hmk1 := run_make_row' (P := Tryd.prog) 31 4 (.bool false) 1 Tryd.underlying31 info4 rfl .i64 .i64 N (by omega) (by omega)
        have hmk2 := run_make_row' (P := Tryd.prog) 22 9 (.string ⟨#[]⟩) 16 Tryd.underlying22 info9 rfl .i64 .i64 N (by omega) (by omega)
        go_wp2_with (at_builtin; refine wpList_append_own_at _ rfl (.tmp 88) (.tmp 89) 22 rfl w4.heap.size 9 i0 (.string ⟨#[]⟩) 1 16 Tryd.underlying22 hi9 hz0 hz1 hz2 rfl (by decide) _ 0 [] rfl (World.ownsRow_nil _ _ _ _) ⟨gd, 0, none⟩ kk _ ((lst S kk).map Value.string) rfl (by simp [lst_len]) (cl_news HCd4.out) (strs_one _) ?kb ?kc (Nat.le_refl _) ?_)
        case kb => unfold maxLen; omega
        case kc => omega
        intro v1 w5 ho1' hg1 _ _
        have hB5 : Below w4.heap.size w4 w5 := (Below.refl _ _).grown hg1 (Nat.le_refl _) (fun g hg => by simp [Value.ownBlock] at hg)
        have ho1 : w5.ownsRow w4.heap.size 9 1 v1 kk ((lst S kk).map Value.string) := by simpa using ho1'
        obtain ⟨g1, capq, hv1, hg11, hg12, _⟩ := own_strs ho1 hk1 (lst_len _ _)
        subst hv1
        have hP5 : Cl w5 gp x (tI P) := (Rw.below HRp.out hB5 hgp4).cl
        clear ho1' hg1 HCd4
        go_wp2_with (at_builtin; refine wpList_append_own_at _ rfl (.tmp 91) (.tmp 92) 22 rfl w4.heap.size 9 i0 (.string ⟨#[]⟩) 1 16 Tryd.underlying22 hi9 hz0 hz1 hz2 rfl (by decide) _ kk ((lst S kk).map Value.string) rfl ho1 ⟨gp, 0, none⟩ x _ ((lst P x).map Value.string) rfl (by simp [lst_len]) (cl_news hP5) (strs_one _) ?kb ?kc hB5.size ?_)
        case kb => unfold maxLen; omega
        case kc => omega
        intro v2 w6 ho2' hg2 _ _
        have hB6 : Below w4.heap.size w4 w6 := hB5.grown hg2 hB5.size (fun g hg => (own_lt ho1 g hg).1)
        have ho2 : w6.ownsRow w4.heap.size 9 1 v2 N ((lst S kk ++ lst P x).map Value.string) := by rw [HN.out, List.map_append]; exact ho2'
        obtain ⟨ga, capa, hv2, hga1, hga2, hCa'⟩ := own_strs ho2 (by omega) (by rw [List.length_append, lst_len, lst_len, HN.out])
        subst hv2
        obtain ⟨A, hA⟩ : ∃ A, allS S kk n = A := ⟨_, rfl⟩
        have hCa : Cl w6 ga N (tI A) := fun i hi => by rw [hCa' i hi]; unfold tI; rw [← hA, ← HP.out, nth_all S kk x n i (by have := HN.out; omega)]
        have HA : Hid _ := hA
        have HCa : Hid _ := hCa
        have hb6 : Below w.heap.size w w6 := hb4.trans (hB6.mono hb4.size)
        have hsz6 := hb6.size
        clear ho2' hg2 ho1 ho2 hCa' hCa hA hB5 hB6 hb4 hP5 HP HRp hga1 hg11 hg12 hgp4
        go_wp2
        go_loopw [21] (fun iv wr => ∃ i : Nat, i ≤ N ∧ iv = .int .i64 i ∧ Rw wr w6.heap.size N 4 (part' i (fun _ => .bool true) (.bool false)) ∧ Rw wr (w6.heap.size + 1) N 9 (part' i (tI A) (.string ⟨#[]⟩)) ∧ Cl wr ga N (tI A) ∧ Below w.heap.size w wr) (fun iv _ => N - (intOf iv).toNat)
        case atStart =>
          refine ⟨0, by omega, rfl, ?_, ?_, ?_, ?_⟩
          · exact ((Rw.made w6 N 4 (.bool false)).alloc _).to (fun j _ => (part_0 _ _ j).symm)
          · have := Rw.made (w6.alloc (.cells (madeCells #[.bool false] N) 4)) N 9 (.string ⟨#[]⟩)
            have e : (w6.alloc (.cells (madeCells #[.bool false] N) 4)).heap.size = w6.heap.size + 1 := by simp
            rw [e] at this
            exact this.to (fun j _ => (part_0 _ _ j).symm)
          · exact Cl.below HCa.out (((Below.refl _ _).alloc (Nat.le_refl _) _).alloc (by simp) _) hga2
          · exact (hb6.alloc hb6.size _).alloc (by simp; omega) _
        case round =>
          clear HCa
          obtain ⟨i, hiN, rfl, hH, hBk, hCr, hbr⟩ := hrel
          have hne1 : ga ≠ w6.heap.size := by omega
          have hne2 : ga ≠ w6.heap.size + 1 := by omega
          by_cases hlt : i < N
          · have c1 := hH.cell i hlt
            have c2 := hH.free i
            have hBk1 := hBk.other ⟨w6.heap.size, i, none⟩ (.bool true) (by simp)
            have hCr1 := Cl.put hCr ⟨w6.heap.size, i, none⟩ (.bool true) hne1
            have c3 := hBk1.cell i hlt
            have c4 := hBk1.free i
            have c5 : (wr.setCell ⟨w6.heap.size, i, none⟩ (.bool true)).cell? ⟨ga, i, none⟩ = some (.string (A i)) := hCr1 i hlt
            have HCr : Hid _ := hCr1
            clear hCr hCr1
            go_wp2
            go_roundw
            case rel => exact ⟨i + 1, by omega, by go_num, ((hH.put i _).other _ _ (by simp)).to (fun j _ => by rw [← part_step]), (hBk1.put i _).to (fun j _ => by rw [← part_step]; rfl), Cl.put HCr.out _ _ hne2, (hbr.setCell hsz6 _).setCell (by show w.heap.size ≤ w6.heap.size + 1; omega) _⟩
            case measure => simp [intOf]; omega
          · have e : N = i := by omega
            subst e
            have HCr : Hid _ := hCr
            clear hCr hiN hlt
            go_wp2
            go_loopw [22] (fun iv wr => ∃ (i : Nat) (h : Nat → Bool) (F : Nat → ByteArray), i ≤ l3 ∧ i ≤ x ∧ iv = .int .i64 i ∧ N ≤ cnt h N + i ∧ (∀ j, j < N → h j = true → F j = A j) ∧ Rw wr w6.heap.size N 4 (bI h) ∧ Rw wr (w6.heap.size + 1) N 9 (tI F) ∧ Cl wr ga N (tI A) ∧ Below w.heap.size w wr) (fun iv _ => x - (intOf iv).toNat)
            case atStart => exact ⟨0, fun _ => true, A, by omega, by omega, rfl, by rw [cnt_all]; omega, fun _ _ _ => rfl, hH.to (fun j hj => by simp [part', hj, bI]), hBk.to (fun j hj => by simp [part', hj]), HCr.out, hbr⟩
            case round =>
              clear hH hBk HCr hbr
              obtain ⟨i, h, F, hi1, hi2, rfl, hcnt, hF, hH, hBk, hCr, hbr⟩ := hrel
              have HF : Hid _ := hF
              have HCr : Hid _ := hCr
              have HCn : Hid _ := hcnt
              clear hF hCr hcnt
              by_cases hlt : i < l3 ∧ i < x
              · obtain ⟨hlt1, hlt2⟩ := hlt
                obtain ⟨b, off, y, ha3, hb, hc, hy0, hy1⟩ := HG.out i hlt1
                subst ha3
                have c1 : wr.cell? ⟨b, off + i, none⟩ = some (.int .i64 y) := (hbr.cell (p := ⟨b, off + i, none⟩) hb).trans hc
                clear hc
                have hp1 := fun W => pick_any y N W (by omega) (by omega) hy0 hy1
                have hp2 := fun W => pick_any y 16 W (by decide) (by decide) hy0 hy1
                obtain ⟨z, hz⟩ : ∃ z, pk y N = z := ⟨_, rfl⟩
                have hzN : z < N := by rw [← hz]; exact pk_lt _ _ hN1
                obtain ⟨q, hq⟩ : ∃ q, pk y 16 = q := ⟨_, rfl⟩
                have hq16 : q < 16 := by rw [← hq]; exact pk_lt _ _ (by decide)
                rw [hz] at hp1
                rw [hq] at hp2
                have hsm := fun W => some_any ⟨#[110, 111, 32, 98, 108, 111, 99, 107, 32, 97, 116, 32, 97, 108, 108]⟩ q W (by omega) (by decide)
                obtain ⟨t, ht⟩ : ∃ t, smT ⟨#[110, 111, 32, 98, 108, 111, 99, 107, 32, 97, 116, 32, 97, 108, 108]⟩ q = t := ⟨_, rfl⟩
                rw [ht] at hsm
                have HP1 : Hid _ := hp1
                have HP2 : Hid _ := hp2
                have HSM : Hid _ := hsm
                clear hp1 hp2 hsm hz hq ht hy0 hy1
                go_wp2_with fail
                refine (HP1.out wr).mono ?_
                rintro e wr2 ⟨rfl, rfl⟩
                have c2 := hH.cell z hzN
                have c3 := hH.free z
                have hBk1 := hBk.other ⟨w6.heap.size, z, none⟩ (.bool false) (by simp)
                have hCr1 := Cl.put HCr.out ⟨w6.heap.size, z, none⟩ (.bool false) hne1
                have c4 := hBk1.cell z hzN
                have c5 := hBk1.free z
                have hbne : b ≠ w6.heap.size := by omega
                have c6 : (wr2.setCell ⟨w6.heap.size, z, none⟩ (.bool false)).cell? ⟨b, off + i, none⟩ = some (.int .i64 y) :=
                  (World.cell?_of_block (a := ⟨b, off + i, none⟩) (heap_setCell_other wr2 ⟨w6.heap.size, z, none⟩ b (.bool false) hbne)).trans c1
                have HCr1 : Hid _ := hCr1
                clear hCr1 HCr
                have hz0' : (0 : Int) ≤ (z : Int) := by omega
                have hzN' : (z : Int) < (N : Int) := by omega
                go_wp2_with fail
                refine (HP2.out _).mono ?_
                rintro e wr3 ⟨rfl, hw3⟩
                subst hw3
                go_wp2_with fail
                refine (HSM.out _).mono ?_
                rintro e wr4 ⟨rfl, hw4⟩
                subst hw4
                go_wp2
                go_roundw
                case rel =>
                  refine ⟨i + 1, updB h z false, updT F z t, by omega, by omega, by go_num, ?_, ?_, ?_, ?_, Cl.put HCr1.out _ _ hne2, (hbr.setCell hsz6 _).setCell (by show w.heap.size ≤ w6.heap.size + 1; omega) _⟩
                  · have := cnt_upd h z N; have := HCn.out; omega
                  · intro j hj hjt
                    unfold updB at hjt
                    by_cases e : j = z
                    · rw [if_pos e] at hjt; cases hjt
                    · rw [if_neg e] at hjt; rw [updT_ne F z t j e]; exact HF.out j hj hjt
                  · exact ((hH.put z _).other _ _ (by simp)).to (fun j _ => by unfold updV bI updB; split <;> rfl)
                  · exact (hBk1.put z _).to (fun j _ => tI_upd F z t j)
                case measure => simp [intOf]; omega
              · have hcx : kk ≤ cnt h N := by have := HCn.out; have := HN.out; omega
                obtain ⟨j0, hj0, hj1, hj2⟩ := cnt_first h N (by omega)
                have hK : (knL h kk N).length = kk := by rw [knL_cnt]; omega
                have hFs : ∀ j, j < N → h j = true → (F j).size = n := fun j hj hjt => by rw [HF.out j hj hjt, ← HA.out]; exact allS_size S kk n j HSs.out
                have hfil : ∀ j, j < N → filled F (gt (knL h kk N)) (gt (wnL h kk N)) kk (wnL h kk N).length n j = .string (A j) := by
                  have := filled_all S F h kk x n (by omega) HSs.out (fun j hj hjt => by rw [HF.out j (by rw [HN.out]; exact hj) hjt, HA.out]) (by rw [← HN.out]; exact hK)
                  rw [← HN.out] at this
                  intro j hj
                  rw [this j hj, HA.out]
                have hv := vrestore_ok F h kk x n (w6.heap.size + 1) N w6.heap.size N j0 wr hk1 (by omega) (by omega) (by rw [← HN.out]; exact hj0) hj1 hj2 (by rw [← HN.out]; exact hFs) (by rw [← HN.out]; exact hK) hBk.lt hH.lt (by rw [← HN.out]; exact hBk.cl) (by rw [← HN.out]; exact hH.cl)
                rw [← HN.out] at hv
                have HV : Hid _ := hv
                have HFIL : Hid _ := hfil
                have hgar : ga < wr.heap.size := by have := hH.lt; omega
                clear hv hfil hFs hK hj1 hj2 hcx HF HCn HA HSs HG hBk hH
                have hend : (¬ ((i : Int) < (l3 : Int))) ∨ (((i : Int) < (l3 : Int)) ∧ ¬ ((i : Int) < (x : Int))) := by omega
                clear hlt
                rcases hend with h5 | ⟨h5, h6⟩
                all_goals
                  go_wp2_with fail
                  refine Calls.mono HV.out ?_
                  rintro e w7 ⟨gr, rfl, hgr, hRr, hB7⟩
                  have hRA : Cl w7 gr N (tI A) := fun j hj => by rw [hRr.cell j hj, HFIL.out j hj]; rfl
                  have hCA : Cl w7 ga N (tI A) := Cl.below HCr.out hB7 hgar
                  have HRA : Hid _ := hRA
                  have HCA : Hid _ := hCA
                  clear hRA hCA hRr
                  go_wp2_with fail
                  refine (same_any A A N gr N ga capa w7 (by omega) HRA.out HCA.out (fun _ _ => rfl)).mono ?_
                  rintro e w8 ⟨rfl, hB8⟩
                  go_wp2
                  go_ret
                  exact ⟨rfl, (hbr.trans (hB7.mono hbr.size)).trans (hB8.mono (Nat.le_trans hbr.size hB7.size))⟩
end Go.Proofs.YtikfcjpkmlhhjaaDoor
