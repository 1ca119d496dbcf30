/-
  The walk of vaultkeep's packed.
-/
import Derived.Test.YtadinjaocnlglaaGreatDoorZ37
import Derived.Deep.CutRange
namespace Go.Proofs.YtadinjaocnlglaaGreatDoor
open Go.RowKit Go.Maps
set_option maxRecDepth 100000
set_option maxHeartbeats 2000000
/-- what came in: n numbers -/
def Ints (w : World) (a : Option Addr) (n : Nat) : Prop := ∀ i, i < n → ∃ b off x, a = some ⟨b, off, none⟩ ∧ b < w.heap.size ∧ w.cell? ⟨b, off + i, none⟩ = some (.int .i64 x) ∧ -9223372036854775808 ≤ x ∧ x ≤ 9223372036854775807
def objs (F : Nat → Ob) (q : Nat) : List Ob := (List.range q).map F
/-- the names, in their order -/
def nmF (F : Nat → Ob) (q : Nat) : List (List UInt8) := (nms (objs F q)).mergeSort leB
theorem DInv.kept {wb g m K M C V : Nat} {G : List UInt8 → List UInt8} {Dn : List Ob} {last : Value} {D : DataW Nat} {w w' : World} (h : DInv wb g m K M C V G Dn last D w) (hk : ∀ j, j < w.heap.size → w'.heap[j]? = w.heap[j]?) : DInv wb g m K M C V G Dn last D w' := by
  refine ⟨?_, ?_, ?_, h.p, ?_⟩
  · rw [hk _ (Array.getElem?_eq_some_iff.1 h.wb).1]; exact h.wb
  · rw [hk _ (Array.getElem?_eq_some_iff.1 h.g).1]; exact h.g
  · obtain ⟨es, ck, h1, h2⟩ := h.m
    exact ⟨es, ck, by rw [hk _ (Array.getElem?_eq_some_iff.1 h1).1]; exact h1, h2⟩
  · intro s hs
    obtain ⟨ob, num, v, h1, h2, h3⟩ := h.o s hs
    exact ⟨ob, num, v, h1, by rw [hk _ (Array.getElem?_eq_some_iff.1 h2).1]; exact h2, own_move h3 (fun r cs _ hc => hk r (Array.getElem?_eq_some_iff.1 hc).1)⟩
theorem DInv.but {wb g m K M C V gl : Nat} {G : List UInt8 → List UInt8} {Dn : List Ob} {last : Value} {D : DataW Nat} {w w' : World} {cur : Array Value} (h : DInv wb g m K M C V G Dn last D w) (hgl : w.heap[gl]? = some (.cells cur 72 (0, 0))) (hk : ∀ j, j ≠ gl → w'.heap[j]? = w.heap[j]?) : DInv wb g m K M C V G Dn last D w' := by
  refine ⟨?_, ?_, ?_, h.p, ?_⟩
  · rw [hk _ (fun e => by have := h.wb; rw [e, hgl] at this; simp at this)]; exact h.wb
  · rw [hk _ (fun e => by have := h.g; rw [e, hgl] at this; simp at this)]; exact h.g
  · obtain ⟨es, ck, h1, h2⟩ := h.m
    exact ⟨es, ck, by rw [hk _ (fun e => by rw [e, hgl] at h1; cases h1)]; exact h1, h2⟩
  · intro s hs
    obtain ⟨ob, num, v, h1, h2, h3⟩ := h.o s hs
    exact ⟨ob, num, v, h1, by rw [hk _ (fun e => by rw [e, hgl] at h2; simp at h2)]; exact h2, own_move h3 (fun r cs _ hc => hk r (fun e => by rw [e, hgl] at hc; simp at hc))⟩
theorem map_none {w : World} {m : Nat} (h : w.heap[m]? = some (.map #[] 0)) : w.ownsMap Tryz.prog 9 pE m 0 (.map []) := by
  obtain ⟨es, ck, h1, h2, h3, h4⟩ := World.ownsMap_made w Tryz.prog 9 pE
  rw [heap_alloc_new] at h1
  cases h1
  exact ⟨#[], 0, h, h2, h3, h4⟩
theorem objs_in {F : Nat → Ob} {q : Nat} {o : Ob} (h : o ∈ objs F q) : ∃ i, i < q ∧ F i = o := by
  obtain ⟨i, h1, h2⟩ := List.mem_map.1 h
  exact ⟨i, List.mem_range.1 h1, h2⟩
theorem nms_nodup {F : Nat → Ob} {q : Nat} (h : Srt q F) : (nms (objs F q)).Nodup := by
  unfold nms objs
  rw [List.map_map]
  refine List.pairwise_map.2 (List.Pairwise.imp_of_mem (fun {i j} hi hj hne => ?_) (List.nodup_range (n := q)))
  intro e
  exact h.ne i j (List.mem_range.1 hi) (List.mem_range.1 hj) hne (by_inj e)
theorem nms_fresh {F : Nat → Ob} {q : Nat} (h : Srt q F) {Dn R : List Ob} {o : Ob} (hp : (Dn ++ [o] ++ R).Perm (objs F q)) : o.1.data.toList ∉ nms Dn := by
  have h1 : (nms (Dn ++ [o] ++ R)).Nodup := (hp.map (fun o : Ob => o.1.data.toList)).nodup_iff.2 (nms_nodup h)
  have e : nms (Dn ++ [o] ++ R) = nms Dn ++ (o.1.data.toList :: nms R) := by simp [nms]
  rw [e] at h1
  intro hm
  exact (List.nodup_append.1 h1).2.2 _ hm _ (by simp) rfl
theorem tdiv7 (c : Int) (h0 : -9223372036854775808 ≤ c) (h1 : c ≤ 9223372036854775807) : -9223372036854775808 ≤ c.tdiv 7 ∧ c.tdiv 7 ≤ 9223372036854775807 := by
  rcases Int.le_total 0 c with h | h
  · rw [Int.tdiv_eq_ediv_of_nonneg h]; omega
  · obtain ⟨a, rfl⟩ : ∃ a, c = -a := ⟨-c, by omega⟩
    rw [Int.neg_tdiv, Int.tdiv_eq_ediv_of_nonneg (by omega)]; omega
theorem cut_two (s : ByteArray) (k : Nat) (hk : k ≤ s.size) : (s.extract 0 k).size = k ∧ (s.extract k s.size).size = s.size - k ∧ (s.extract 0 k).data.toList ++ (s.extract k s.size).data.toList = s.data.toList := by
  refine ⟨by rw [ByteArray.size_extract]; omega, by rw [ByteArray.size_extract]; omega, ?_⟩
  rw [ByteArray.data_extract, ByteArray.data_extract, Array.toList_extract, Array.toList_extract]
  have e : s.size = s.data.toList.length := by simp
  rw [e]
  simp only [List.extract, List.drop_zero, Nat.sub_zero]
  rw [List.take_of_length_le (l := s.data.toList.drop k) (by rw [List.length_drop]; omega), List.take_append_drop]
theorem tot_le : ∀ l : List Ob, (∀ o ∈ l, o.2.size ≤ 12) → tot l ≤ l.length * 12
  | [], _ => by simp [tot]
  | x :: r, h => by
    have ih := tot_le r (fun o ho => h o (by simp [ho]))
    have h1 := h x (by simp)
    simp only [tot, List.map_cons, List.sum_cons, List.length_cons] at *
    omega
theorem tot_flat : ∀ l : List Ob, tot l = (l.flatMap fun o => o.2.data.toList).length
  | [] => by simp [tot]
  | x :: r => by
    have ih := tot_flat r
    simp only [tot, List.map_cons, List.sum_cons, List.flatMap_cons, List.length_append] at *
    rw [← ih, dl]
theorem flat_names {F : Nat → Ob} {q : Nat} (h : Srt q F) : (nms (objs F q)).flatMap (datOf F q) = (objs F q).flatMap fun o => o.2.data.toList := by
  unfold nms
  rw [List.flatMap_map, List.flatMap_def, List.flatMap_def]
  congr 1
  apply List.map_congr_left
  intro o ho
  obtain ⟨i, hi, rfl⟩ := objs_in ho
  exact datOf_at h i hi
theorem dtT_size (G : List UInt8 → List UInt8) (T : List (List UInt8)) : (dtT G T).size = (T.flatMap G).length := by
  unfold dtT datL
  show (List.flatMap G (T.take T.length)).toArray.size = _
  rw [List.take_length, List.size_toArray]
theorem nmS_F {F : Nat → Ob} {q : Nat} {D : DataW Nat} (h : (strKeys D).Perm (nms (objs F q))) : nmS D = nmF F q := mergeSort_of_perm h
theorem tot_names {F : Nat → Ob} {q : Nat} {Dn : List Ob} (h : Srt q F) (hp : Dn.Perm (objs F q)) : tot Dn = (dtT (datOf F q) (nmF F q)).size := by
  rw [dtT_size, tot_flat]
  have h1 : (nmF F q).Perm (nms (objs F q)) := List.mergeSort_perm _ _
  rw [(h1.flatMap_right (datOf F q)).length_eq, flat_names h]
  exact (hp.flatMap_right _).length_eq
theorem packed_any (kt : Nat → Int) (K M C V q lc n cap B : Nat) (la a : Option Addr) (F : Nat → Ob) (w : World) (hK1 : 1 ≤ K) (hK2 : K ≤ 5) (hM : M ≤ 3) (hC1 : 1 ≤ C) (hC2 : C ≤ 8) (hV1 : 1 ≤ V) (hV2 : V ≤ 5) (hq : q ≤ 5)
    (hL : OwnF w B (.slice la q lc) q F) (hS : Srt q F) (hI : Ints w a n) (hG : Gd kt w) :
    Calls Tryz.prog 17 #[pV K M C V, .slice la q lc, .slice a n cap] w fun e w' => ∃ gv, e = .returned (.tuple #[.slice (some ⟨gv, 0, none⟩) V V, .string (rtT kt K M C V (datOf F q) (nmF F q)), .bool true]) ∧ w.heap.size ≤ gv ∧ Rw w' gv V 9 (tX (voT kt K M C V (datOf F q) (nmF F q))) ∧ Below w.heap.size w w' := by
  have H10 : Hid (∀ W, _) := fun W => nwriter_ok K M C V W hK1 (by omega) hC1 (by omega) hV1 (by omega)
  have HL : Hid (OwnF w B (.slice la q lc) q F) := hL
  have HS : Hid (Srt q F) := hS
  have HI : Hid (Ints w a n) := hI
  have HG : Hid (Gd kt w) := hG
  obtain ⟨i0, hi0, hz0, hz1, hz2⟩ := info_parts info36
  have HI0 : Hid _ := hi0
  have HZ0 : Hid _ := hz0
  have HZ1 : Hid _ := hz1
  have HZ2 : Hid _ := hz2
  unfold pV at H10 ⊢
  clear hL hS hI hG hi0 hz0 hz1 hz2
  go_enter Tryz.func17, Tryz.ntmps17
  go_wp2_with fail
  refine Calls.mono (H10.out _) ?_
  rintro e s1 ⟨m, rfl, hm0, hm1, hg1, hw1, hsz1, hb1⟩
  have HB1 : Hid (Below w.heap.size w s1) := by
    have h0 : Below w.heap.size w (w.alloc (Obj.cells #[Value.int IntKind.i64 K, Value.int IntKind.i64 M, Value.int IntKind.i64 C, Value.int IntKind.i64 V] 23)) := (Below.refl _ _).alloc (Nat.le_refl _) _
    exact h0.trans (hb1.mono h0.size)
  have HPB : Hid (s1.heap[w.heap.size]? = some (.cells #[.int .i64 K, .int .i64 M, .int .i64 C, .int .i64 V] 23 (0, 0))) := by
    show _ = _
    rw [hb1.block _ (by simp)]; exact heap_alloc_new _ _
  have hmw : w.heap.size < m := by simp at hm0; omega
  have HI1 : Hid (DInv (m + 2) (m + 1) m K M C V (datOf F q) [] (.pointer none) (.map []) s1) := by
    exact ⟨hw1, hg1, map_none hm1, List.Perm.refl _, fun s hs => by simp [strKeys] at hs⟩
  clear H10 hb1 hm1 hg1 hw1 hm0
  go_upto_region 5 with fail
  go_cut [11] from 34 to 36 (fun s11 wx => OwnF wx w.heap.size s11 q F ∧ Below w.heap.size w wx ∧ DInv (m + 2) (m + 1) m K M C V (datOf F q) [] (.pointer none) (.map []) wx ∧ wx.heap[w.heap.size]? = some (.cells #[.int .i64 K, .int .i64 M, .int .i64 C, .int .i64 V] 23 (0, 0)))
  case first =>
    rcases HL.out.2 with ⟨h1, h2⟩ | ⟨g, cap', cur, h1, hgb, hh, hc, _⟩
    · cases h1
      go_wp2_with fail
      go_meet
      case rel => exact ⟨⟨rfl, .inl ⟨rfl, rfl⟩⟩, HB1.out, HI1.out, HPB.out⟩
    · cases h1
      have hgl := (Array.getElem?_eq_some_iff.1 hh).1
      have HL1 : Hid (s1.ownsRow B 72 2 (.slice (some ⟨g, 0, none⟩) q lc) q (objF F q)) := own_low HL.out (fun r hr => by cases hr; exact hgl) HB1.out
      go_wp2_with (at_builtin; refine wpList_append_own _ rfl (.tmp 34) (.tmp 35) 38 rfl w.heap.size 72 i0 (.agg #[.string ⟨#[]⟩, .string ⟨#[]⟩]) 2 32 Tryz.underlying38 HI0.out HZ0.out HZ1.out HZ2.out rfl (by omega) (.slice none 0 0) 0 [] (by simp [Act.eval]) ⟨rfl, .inl ⟨rfl, rfl⟩⟩ ⟨g, 0, none⟩ q lc (objF F q) (by simp [Act.eval]) (objF_len _ _) (HL1.out.cells rfl) (objF_one _ _) (by unfold maxLen; omega) (by omega) (by omega) ?_; intro v2 w2 hO2 hG2 _)
      go_meet
      case rel =>
        have hk : ∀ j, j < s1.heap.size → w2.heap[j]? = s1.heap[j]? := fun j hj => hG2.block j hj (by simp [Value.ownBlock])
        refine ⟨?_, HB1.out.grown hG2 (by omega) (fun j hj => by cases hj), HI1.out.kept hk, by rw [hk _ (by omega)]; exact HPB.out⟩
        have := hO2
        rw [Nat.zero_add, List.nil_append] at this
        exact this
  case rest =>
    obtain ⟨hO2, hB2, hI2, hP2⟩ := hcut
    have HO2 : Hid (OwnF wc w.heap.size u11 q F) := hO2
    have HB2 : Hid (Below w.heap.size w wc) := hB2
    have HI2 : Hid (DInv (m + 2) (m + 1) m K M C V (datOf F q) [] (.pointer none) (.map []) wc) := hI2
    have HP2 : Hid _ := hP2
    clear hO2 hB2 hI2 hP2 HI1 HPB HB1
    go_wp2
    go_loopw [11, 12] (fun lv iv wr => ∃ (r : Nat) (G : Nat → Ob) (Dn : List Ob) (last : Value) (D : DataW Nat), Dn.length + r = q ∧ iv = .int .i64 Dn.length ∧ OwnF wr w.heap.size lv r G ∧ DInv (m + 2) (m + 1) m K M C V (datOf F q) Dn last D wr ∧ (Dn ++ objs G r).Perm (objs F q) ∧ Below w.heap.size w wr ∧ wr.heap[w.heap.size]? = some (.cells #[.int .i64 K, .int .i64 M, .int .i64 C, .int .i64 V] 23 (0, 0))) (fun _ iv _ => q - (intOf iv).toNat)
    case atStart => exact ⟨q, F, [], .pointer none, .map [], by simp, rfl, HO2.out, HI2.out, by rw [List.nil_append], HB2.out, HP2.out⟩
    case round =>
      obtain ⟨r, G, Dn, last, D, hqr, rfl, hown, hinv, hperm, hbe, hpb⟩ := hrel
      obtain ⟨ga, gc, hgv⟩ := own_shape hown
      subst hgv
      have HO : Hid (OwnF wr w.heap.size (.slice ga r gc) r G) := hown
      have HV : Hid (DInv (m + 2) (m + 1) m K M C V (datOf F q) Dn last D wr) := hinv
      have HP : Hid ((Dn ++ objs G r).Perm (objs F q)) := hperm
      have HB : Hid (Below w.heap.size w wr) := hbe
      have HPB : Hid _ := hpb
      clear hown hinv hperm hbe hpb HO2 HB2 HI2 HP2
      obtain ⟨d, hd⟩ : ∃ d, Dn.length = d := ⟨_, rfl⟩
      rw [hd] at hqr ⊢
      have HD : Hid _ := hd
      clear hd
      by_cases hr : 0 < r
      · have hr1 : (0 : Int) < (r : Int) := by omega
        go_upto_if 45 with fail
        go_cut [13] from 37 to 116 (fun s13 wx => ∃ c : Int, s13 = .int .i64 c ∧ -9223372036854775808 ≤ c ∧ c ≤ 9223372036854775807 ∧ wx = wr)
        case first =>
          by_cases hin : d < n
          · obtain ⟨b, off, x, rfl, hb, hx, x0, x1⟩ := HI.out d hin
            have x2 : wr.cell? ⟨b, off + d, none⟩ = some (.int .i64 x) := (HB.out.cell (p := ⟨b, off + d, none⟩) hb).trans hx
            have hin1 : (d : Int) < (n : Int) := by omega
            go_wp2
            go_meet
            case rel => exact ⟨x, rfl, x0, x1, rfl⟩
          · have hin1 : ¬ ((d : Int) < (n : Int)) := by omega
            go_wp2
            go_meet
            case rel => exact ⟨0, rfl, by omega, by omega, rfl⟩
        case rest =>
          obtain ⟨c, rfl, c0, c1, rfl⟩ := hcut
          obtain ⟨gl, gc', hgv, hglb, hgll, hgcap⟩ := OwnF.at HO.out hr
          cases hgv
          go_wp2_with fail
          refine (pick_at c r (r : Int) wc rfl hr (by omega) c0 c1).mono ?_
          rintro e w1 ⟨rfl, rfl⟩
          have hp := pk_lt c r hr
          obtain ⟨p, hpe⟩ : ∃ p, pk c r = p := ⟨_, rfl⟩
          rw [hpe] at hp ⊢
          clear hpe
          have x0 := OwnF.c0 HO.out p hp
          have x1 := OwnF.c1 HO.out p hp
          have p1 : (p : Int) < (r : Int) := by omega
          go_wp2_with fail
          obtain ⟨W2, hW2⟩ : ∃ W2, w1.alloc (Obj.cells #[Value.string (G p).1, Value.string (G p).2] 72) = W2 := ⟨_, rfl⟩
          have hk2 : ∀ j, j < w1.heap.size → W2.heap[j]? = w1.heap[j]? := fun j hj => by rw [← hW2]; exact heap_alloc_old _ _ hj
          have HX2 : Hid (W2.heap[w1.heap.size]? = some (.cells #[.string (G p).1, .string (G p).2] 72 (0, 0))) := by show _ = _; rw [← hW2]; exact heap_alloc_new _ _
          have HO2 : Hid (OwnF W2 w.heap.size (.slice (some ⟨gl, 0, none⟩) r gc) r G) := by show OwnF _ _ _ _ _; rw [← hW2]; exact World.ownsRow.alloc HO.out _
          have HV2 : Hid (DInv (m + 2) (m + 1) m K M C V (datOf F q) Dn last D W2) := HV.out.kept hk2
          have HB2 : Hid (Below w.heap.size w W2) := by show Below _ _ _; rw [← hW2]; exact HB.out.alloc HB.out.size _
          have HPB2 : Hid (W2.heap[w.heap.size]? = some (.cells #[.int .i64 K, .int .i64 M, .int .i64 C, .int .i64 V] 23 (0, 0))) := by show _ = _; rw [hk2 _ (Array.getElem?_eq_some_iff.1 HPB.out).1]; exact HPB.out
          have hW2s : W2.heap.size = w1.heap.size + 1 := by rw [← hW2]; simp
          have hws : w.heap.size < w1.heap.size := (Array.getElem?_eq_some_iff.1 HPB.out).1
          rw [hW2]
          obtain ⟨xo, hxe⟩ : ∃ xo, w1.heap.size = xo := ⟨_, rfl⟩
          rw [hxe] at HX2 hW2s hws hgll ⊢
          clear hW2 hxe hk2 x0 x1 HO HV HB HPB
          obtain ⟨A, hA, hnews⟩ : ∃ A : Addr, (if gc = p + 1 then some (⟨gl, 0, none⟩ : Addr) else some ⟨gl, (p + 1) * 2, none⟩) = some A ∧ Hid (∀ j u, (movF G p r)[j]? = some u → W2.drew.cell? (A.add j) = some u) := by
            by_cases h : gc = p + 1
            · refine ⟨⟨gl, 0, none⟩, by simp [h], fun j u hu => ?_⟩
              have hl0 : (movF G p r).length = 0 := by rw [movF_len]; omega
              rw [List.length_eq_zero_iff.1 hl0] at hu
              simp at hu
            · refine ⟨⟨gl, (p + 1) * 2, none⟩, by simp [h], fun j u hu => ?_⟩
              have hj : j < (r - (p + 1)) * 2 := by
                have := (List.getElem?_eq_some_iff.1 hu).1
                rwa [movF_len] at this
              rw [movF_get _ _ _ _ hj] at hu
              rw [Addr.add_lit]
              have hc := World.ownsRow.cells HO2.out (g := gl) rfl ((p + 1) * 2 + j) _ (objF_get G r _ (by omega))
              rw [Addr.add_lit] at hc
              rw [← hu]
              simpa using hc
          have s1' : Hid ((movF G p r).length = (r - (p + 1)) * 2) := movF_len _ _ _
          have s3' : Hid (∀ j, j < (movF G p r).length → (W2.drew.cell? ⟨gl, 0 + p * 2 + j, none⟩).isSome = true ∧ W2.drew.frozen? ⟨gl, 0 + p * 2 + j, none⟩ = false) := by
            intro j hj
            rw [movF_len] at hj
            refine ⟨?_, OwnF.free HO2.out _⟩
            have hc := World.ownsRow.cells HO2.out (g := gl) rfl (p * 2 + j) _ (objF_get G r _ (by omega))
            rw [Addr.add_lit] at hc
            show (W2.cell? _).isSome = true
            rw [Nat.zero_add] at hc ⊢
            rw [hc]; rfl
          have hpc : p ≤ gc := by omega
          have hwr : IntKind.i64.wrap ((p : Int) + 1) = (p : Int) + 1 := by rw [IntKind.wrap_i64]; omega
          have hp0 : (0 : Int) ≤ (p : Int) + 1 := by omega
          have hp1' : (p : Int) + 1 ≤ (r : Int) := by omega
          have hp2 : ((p : Int) + 1).toNat = p + 1 := by omega
          go_region_law (refine step_append_room rfl (.tmp 60) (.tmp 64) 38 rfl 72 i0 2 Tryz.underlying38 HI0.out HZ1.out gl 0 p gc (by simp [Act.eval, Act.put]) A (r - (p + 1)) (gc - (p + 1)) (movF G p r) (by simp [Act.eval, Act.put]) s1'.out hnews.out (movF_one _ _ _) (by omega) s3'.out ?_)
          obtain ⟨cur2, hcur2, _⟩ := OwnF.cur HO2.out
          obtain ⟨W3, hW3⟩ : ∃ W3, W2.drew.setCells gl (p * 2) (movF G p r) = W3 := ⟨_, rfl⟩
          have hk3 : ∀ j, j ≠ gl → W3.heap[j]? = W2.heap[j]? := fun j hj => by rw [← hW3]; exact setCells_other gl j hj _ _ _
          have hs3 : W3.heap.size = W2.heap.size := by rw [← hW3]; exact setCells_size gl _ _ _
          have hrp : p + (r - (p + 1)) = r - 1 := by omega
          have HO3 : Hid (OwnF W3 w.heap.size (.slice (some ⟨gl, 0, none⟩) (r - 1) gc) (r - 1) (delF G p)) := by
            show OwnF _ _ _ _ _
            rw [← hW3, ← hrp]; exact OwnF.del (w := W2.drew) HO2.out p hp
          have HV3 : Hid (DInv (m + 2) (m + 1) m K M C V (datOf F q) Dn last D W3) := HV2.out.but hcur2 hk3
          have HX3 : Hid (W3.heap[xo]? = some (.cells #[.string (G p).1, .string (G p).2] 72 (0, 0))) := by show _ = _; rw [hk3 xo (by omega)]; exact HX2.out
          have HPB3 : Hid (W3.heap[w.heap.size]? = some (.cells #[.int .i64 K, .int .i64 M, .int .i64 C, .int .i64 V] 23 (0, 0))) := by
            show _ = _
            rw [hk3 _ (fun e => by have := HPB2.out; rw [e, hcur2] at this; simp at this)]; exact HPB2.out
          have HB3 : Hid (Below w.heap.size w W3) := by
            have hc : Calm W2.drew W3 := by rw [← hW3]; exact setCells_calm gl _ _ _
            have hb := HB2.out
            exact ⟨hc.1.trans hb.os, hc.2.1.trans hb.tape, hc.2.2.trans hb.output, by rw [hs3]; exact hb.size, fun k hk => by rw [hk3 k (by omega)]; exact hb.block k hk⟩
          rw [hW3, hrp]
          have hG0 : (G p) ∈ objs F q := HP.out.mem_iff.1 (List.mem_append_right _ (List.mem_map.2 ⟨p, List.mem_range.2 hp, rfl⟩))
          have HPM : Hid ((Dn ++ [G p] ++ objs (delF G p) (r - 1)).Perm (objs F q)) := by
            have h1 := del_perm G r p hp
            rw [hrp] at h1
            have h2 : (Dn ++ objs G r).Perm (Dn ++ (G p :: objs (delF G p) (r - 1))) := List.Perm.append_left Dn h1
            have h3 : Dn ++ (G p :: objs (delF G p) (r - 1)) = Dn ++ [G p] ++ objs (delF G p) (r - 1) := by simp
            rw [h3] at h2
            exact h2.symm.trans HP.out
          obtain ⟨o, ho⟩ : ∃ o, G p = o := ⟨_, rfl⟩
          rw [ho] at HX3 hG0 HPM
          clear hW3 hk3 hnews s1' s3' hA hcur2 HO2 HV2 HX2 HPB2 HB2 HP
          have x0 : W3.cell? ⟨xo, 0, none⟩ = some (.string o.1) := cell_of_row _ _ _ _ 72 _ HX3.out
          have x1 : W3.cell? ⟨xo, 1, none⟩ = some (.string o.2) := cell_of_row _ _ _ _ 72 _ HX3.out
          obtain ⟨fi, hfi, hfo⟩ := objs_in hG0
          have hsz := HS.out.sz fi hfi
          have hdat := datOf_at HS.out fi hfi
          rw [hfo] at hsz hdat
          have hfresh := nms_fresh HS.out HPM.out
          have hnew : o.1.data.toList ∉ strKeys D := fun h => hfresh (HV3.out.p.mem_iff.1 h)
          have hno : Maps.has D (.string o.1.data.toList) = false := by
            cases h : Maps.has D (.string o.1.data.toList) with
            | false => rfl
            | true => exact absurd (has_mem h) hnew
          have htot : tot Dn ≤ 60 := by
            have h1 := tot_le Dn (fun o' ho' => by
              obtain ⟨i, hi, rfl⟩ := objs_in (HPM.out.mem_iff.1 (List.mem_append_left _ (List.mem_append_left _ ho')))
              exact (HS.out.sz i hi).2.2)
            have h2 : Dn.length ≤ 5 := by have := HD.out; omega
            have : Dn.length * 12 ≤ 5 * 12 := Nat.mul_le_mul_right _ h2
            omega
          have hd5 : Dn.length < 16 := by have := HD.out; omega
          have hkx : xo < W3.heap.size := (Array.getElem?_eq_some_iff.1 HX3.out).1
          have hxg : xo ≠ m + 1 := fun e => by have := HV3.out.g; rw [← e, HX3.out] at this; simp at this
          have hxw : xo ≠ m + 2 := fun e => by have := HV3.out.wb; rw [← e, HX3.out] at this; simp at this
          have hxm : xo ≠ m := fun e => by obtain ⟨es, ck, h1, _⟩ := HV3.out.m; rw [← e, HX3.out] at h1; cases h1
          have HBEG : Hid _ := wbegin_ok (m + 2) (m + 1) m K M C V Dn.length (tot Dn) last D o.1 W3 HV3.out.wb HV3.out.g HV3.out.m hno hsz.1 (by omega) hd5
          have HDAT : Hid _ := hdat
          have HNEW : Hid _ := hnew
          clear hfresh hno hfo hfi hdat hnew
          go_wp2_with fail
          refine (pick_at (c.tdiv 7) (o.2.size + 1) _ W3 (by omega) (by omega) (by omega) (tdiv7 c c0 c1).1 (tdiv7 c c0 c1).2).mono ?_
          rintro e w3 ⟨rfl, rfl⟩
          have hcl := pk_lt (c.tdiv 7) (o.2.size + 1) (by omega)
          obtain ⟨ct, hcte⟩ : ∃ ct, pk (c.tdiv 7) (o.2.size + 1) = ct := ⟨_, rfl⟩
          rw [hcte] at hcl ⊢
          clear hcte
          go_wp2_with fail
          refine Calls.mono HBEG.out ?_
          rintro e w4 ⟨rfl, ob, b1, b2, b3, b4, b5, b6, b7, b8⟩
          have x4 : w4.cell? ⟨xo, 1, none⟩ = some (.string o.2) := (World.cell?_of_block (b7 xo hkx hxg hxm hxw)).trans x1
          obtain ⟨hA1, hA2, hA3⟩ := cut_two o.2 ct (by omega)
          have HA1 : Hid _ := hA1
          have HA2 : Hid _ := hA2
          have HA3 : Hid _ := hA3
          have HW1 : Hid _ := wwrite_ok (m + 2) (m + 1) ob K M C V (Dn.length + 1) (tot Dn) 0 w3.heap.size (.int .i64 Dn.length) (.map (some m)) (.slice none 0 0) [] (o.2.extract 0 ct) w4 b2 b4 b3 ⟨rfl, .inl ⟨rfl, rfl⟩⟩ b6 (by omega) (by omega)
          have HB5 : Hid _ := b5
          have HB7 : Hid _ := b7
          have hxo : xo ≠ ob := by omega
          have hct : (ct : Int) ≤ (o.2.size : Int) := by omega
          clear x0 x1 b5 b7 hA1 hA2 hA3 b2 b4 b3 HBEG
          go_wp2_with fail
          refine Calls.mono HW1.out ?_
          rintro e w5 ⟨rfl, dv1, d2, d3, d4, d5, d6, d7, d8⟩
          have x5 : w5.cell? ⟨xo, 1, none⟩ = some (.string o.2) := (World.cell?_of_block (d7 xo (by omega) hxg hxo hxw (by simp [Value.ownBlock]))).trans x4
          have HW2 : Hid _ := wwrite_ok (m + 2) (m + 1) ob K M C V (Dn.length + 1) (tot Dn + (o.2.extract 0 ct).size) (0 + (o.2.extract 0 ct).size) w3.heap.size (.int .i64 Dn.length) (.map (some m)) dv1 ([] ++ Lib.strCells (o.2.extract 0 ct)) (o.2.extract ct o.2.size) w5 d2 d3 d4 d5 (by omega) (by have := HA1.out; have := HA2.out; omega) (by have := HA1.out; omega)
          have HD5 : Hid _ := d5
          have HD7 : Hid _ := d7
          clear x4 HW1 d2 d3 d4 d5 d7
          rw [HA1.out]
          go_wp2_with fail
          refine Calls.mono HW2.out ?_
          rintro e w6 ⟨rfl, dv2, f2, f3, f4, f5, f6, f7, f8⟩
          have x6 : w6.cell? ⟨xo, 1, none⟩ = some (.string o.2) := (World.cell?_of_block (f7 xo (by omega) hxg hxo hxw (fun e => by have := own_ge HD5.out xo e.symm; omega))).trans x5
          obtain ⟨hI6, hfr6, hs6, hc6⟩ := round_end (datOf F q) (m + 2) (m + 1) m K M C V Dn o last D w3 w4 w5 w6 (o.2.extract 0 ct) (o.2.extract ct o.2.size) HA3.out HDAT.out HNEW.out HV3.out ob b1 HB5.out b6 HB7.out b8 dv1 HD5.out d6 HD7.out d8 dv2 f2 f3 f4 f5 f6 f7 f8
          have HI6 : Hid _ := hI6
          have HO6 : Hid (OwnF w6 w.heap.size (.slice (some ⟨gl, 0, none⟩) (r - 1) gc) (r - 1) (delF G p)) := own_move HO3.out (fun t cs ht hc => by
            cases ht
            refine hfr6 gl (Array.getElem?_eq_some_iff.1 hc).1 (fun e => ?_) (fun e => ?_) (fun e => ?_)
            · have := HV3.out.g; rw [← e, hc] at this; simp at this
            · obtain ⟨es, ck, h1, _⟩ := HV3.out.m; rw [← e, hc] at h1; cases h1
            · have := HV3.out.wb; rw [← e, hc] at this; simp at this)
          have HB6 : Hid (Below w.heap.size w w6) := by
            have hb := HB3.out
            exact ⟨hc6.1.trans hb.os, hc6.2.1.trans hb.tape, hc6.2.2.trans hb.output, Nat.le_trans hb.size hs6, fun k hk => (hfr6 k (Nat.lt_of_lt_of_le hk hb.size) (by omega) (by omega) (by omega)).trans (hb.block k hk)⟩
          have HPB6 : Hid (w6.heap[w.heap.size]? = some (.cells #[.int .i64 K, .int .i64 M, .int .i64 C, .int .i64 V] 23 (0, 0))) := (hfr6 w.heap.size (Array.getElem?_eq_some_iff.1 HPB3.out).1 (by omega) (by omega) (by omega)).trans HPB3.out
          have hb2 : ((o.2.size - ct : Nat) : Int) = (o.2.size : Int) - (ct : Int) := by omega
          rw [HA2.out, hb2]
          clear x5 hI6 hfr6 hs6 hc6 f2 f3 f4 f5 f6 f7 f8 HW2 hb2
          go_wp2
          go_roundw
          case rel => exact ⟨r - 1, delF G p, Dn ++ [o], .pointer (some ⟨ob, 0, none⟩), D.put (.string o.1.data.toList) (.held ob), by have := HD.out; simp; omega, by have := HD.out; simp [this], HO6.out, HI6.out, HPM.out, HB6.out, HPB6.out⟩
          case measure => simp [intOf]; omega
      · obtain rfl : r = 0 := by omega
        have hpd : Dn.Perm (objs F q) := by have := HP.out; simpa [objs] using this
        have hkp : (strKeys D).Perm (nms (objs F q)) := HV.out.p.trans (hpd.map _)
        have hnm : nmS D = nmF F q := nmS_F hkp
        have htt := tot_names HS.out hpd
        have hin : ∀ o ∈ Dn, o.1.size ≤ 10 ∧ o.2.size ≤ 12 := fun o ho => by
          obtain ⟨i, hi, rfl⟩ := objs_in (hpd.mem_iff.1 ho)
          exact (HS.out.sz i hi).2
        have htot : tot Dn ≤ 60 := by
          have h1 := tot_le Dn (fun o ho => (hin o ho).2)
          have h2 : Dn.length ≤ 5 := by have := HD.out; omega
          have : Dn.length * 12 ≤ 5 * 12 := Nat.mul_le_mul_right _ h2
          omega
        have hnb : nbT K M C (dtT (datOf F q) (nmS D)) ≤ 512 := by
          unfold nbT
          rw [hnm, ← htt]
          have h1 := nst_len (K * C) (tot Dn) (Nat.mul_pos hK1 hC1)
          exact Nat.le_trans (Nat.mul_le_mul (Nat.le_trans h1 htot) (show K + M ≤ 8 by omega)) (by omega)
        have hG4 : 4 ≤ w.heap.size := HG.out.one
        have HCL : Hid _ := wclose_ok kt (m + 2) (m + 1) m K M C V Dn.length (tot Dn) last D (datOf F q) wr HV.out.wb (by omega) HV.out.g (by omega) HV.out.m HV.out.o (by have := HD.out; omega) (fun s _ => Nat.le_trans (datOf_len HS.out s) (by omega)) (fun s hs => by
          obtain ⟨o, ho, rfl⟩ := List.mem_map.1 (HV.out.p.mem_iff.1 hs)
          have := (hin o ho).1
          rw [dl]; omega) (by rw [hnm]; exact htt) (by omega) hK1 (by omega) hC1 (by omega) hV1 (by omega) hnb (HG.out.below HB.out)
        rw [hnm] at HCL
        have hR32 : (rtT kt K M C V (datOf F q) (nmF F q)).size = 32 := ofT_size _ _
        obtain ⟨R, hR⟩ : ∃ R, rtT kt K M C V (datOf F q) (nmF F q) = R := ⟨_, rfl⟩
        obtain ⟨VO, hVO⟩ : ∃ VO, voT kt K M C V (datOf F q) (nmF F q) = VO := ⟨_, rfl⟩
        rw [hR, hVO] at HCL
        rw [hR] at hR32
        have HRR : Hid _ := hR
        have HVO : Hid _ := hVO
        clear hR hVO hnb htt hnm hkp hpd hin
        go_wp2_with fail
        refine Calls.mono HCL.out ?_
        rintro e w4 ⟨gv, rfl, h1, h2, h3, h4, h5⟩
        have hP4 : w4.heap[w.heap.size]? = some (.cells #[.int .i64 K, .int .i64 M, .int .i64 C, .int .i64 V] 23 (0, 0)) := (h4 w.heap.size (Array.getElem?_eq_some_iff.1 HPB.out).1 (by omega) (by omega)).trans HPB.out
        have v4 : w4.cell? ⟨w.heap.size, 3, none⟩ = some (.int .i64 V) := cell_of_row _ _ _ _ 23 _ hP4
        have HB4 : Hid (Below w.heap.size w w4) := by
          have hb := HB.out
          exact ⟨h5.1.trans hb.os, h5.2.1.trans hb.tape, h5.2.2.trans hb.output, Nat.le_trans hb.size h3, fun k hk => (h4 k (Nat.lt_of_lt_of_le hk hb.size) (by omega) (by omega)).trans (hb.block k hk)⟩
        have HR4 : Hid _ := h2
        have HGV : Hid (w.heap.size ≤ gv) := Nat.le_trans HB.out.size h1
        clear h2 h4 h5
        go_wp2
        go_ret3
        rw [HRR.out, HVO.out]
        refine ⟨gv, ?_, HGV.out, HR4.out, HB4.out⟩
        simp
end Go.Proofs.YtadinjaocnlglaaGreatDoor
