/-
  The walk of vaultkeep.Clean.
  The walk of vaultkeep's mixed.
  Plain: the vault that comes of sorted objects.
  Plain: all volumes of a vault, in whatever order.
  The walk of vaultkeep's Ordered.
  The walk of vaultkeep.Packed.
-/
import Derived.Test.YtadinjaocnlglaaGreatDoorZ38
import Derived.Test.YtadinjaocnlglaaGreatDoorZ39
import Derived.Sort.Walk0
import Derived.Test.YtadinjaocnlglaaGreatDoorZ04
namespace Go.Proofs.YtadinjaocnlglaaGreatDoor
open Go.RowKit
set_option maxRecDepth 100000
set_option maxHeartbeats 4000000
theorem RawT.below {w w' : World} {a : Option Addr} {n cap : Nat} {L : Nat → ByteArray} (h : RawT w a n cap L) (hb : Below w.heap.size w w') : RawT w' a n cap L := by
  rcases h with h | ⟨ad, rfl, hc⟩
  · exact .inl h
  · exact .inr ⟨ad, rfl, fun i hi => by
      obtain ⟨b, off, e, h1, h2⟩ := hc i hi
      exact ⟨b, off, e, Nat.lt_of_lt_of_le h1 hb.size, (hb.cell (p := ⟨b, off + i, none⟩) h1).trans h2⟩⟩
/-- while texts are looked for -/
def Lft (B g cap r : Nat) (G : Nat → ByteArray) (w : World) : Prop := w.ownsRow B 9 1 (.slice (some ⟨g, 0, none⟩) r cap) r (tV G r)
end Go.Proofs.YtadinjaocnlglaaGreatDoor
namespace Go.Proofs.YtadinjaocnlglaaGreatDoor
open Go.RowKit
set_option maxRecDepth 100000
set_option maxHeartbeats 4000000
theorem eraseT_perm : ∀ (l : List ByteArray) (p : Nat) (h : p < l.length), l.Perm (l[p] :: l.eraseIdx p)
  | [], _, h => by simp at h
  | x :: r, 0, _ => List.Perm.refl _
  | x :: r, p + 1, h => ((eraseT_perm r p (by simpa using h)).cons x).trans (List.Perm.swap _ _ _)
theorem delT_perm (G : Nat → ByteArray) (r p : Nat) (hp : p < r) : (texL G r).Perm (G p :: texL (delT G p) (r - 1)) := by
  have hl : p < (texL G r).length := by rw [texL_len]; exact hp
  have h1 := eraseT_perm _ p hl
  have e1 : (texL G r)[p] = G p := by simp [texL]
  have e2 : (texL G r).eraseIdx p = texL (delT G p) (r - 1) := by
    apply List.ext_getElem?
    intro i
    rw [List.getElem?_eraseIdx]
    unfold texL delT
    simp only [List.getElem?_map]
    by_cases hi : i < r - 1
    · rw [List.getElem?_range hi]
      by_cases e : i < p
      · rw [if_pos e, List.getElem?_range (by omega)]
        simp [e]
      · rw [if_neg e, List.getElem?_range (by omega)]
        simp [e]
    · rw [List.getElem?_eq_none (l := List.range (r - 1)) (by simp; omega)]
      split
      · omega
      · rw [List.getElem?_eq_none (by simp; omega)]
        rfl
  rw [e1, e2] at h1
  exact h1
theorem own_text (w : World) (x : ByteArray) : (w.alloc (.cells #[.string x] 9)).ownsRow w.heap.size 9 1 (.slice (some ⟨w.heap.size, 0, none⟩) 1 1) 1 [.string x] :=
  ⟨rfl, .inr ⟨w.heap.size, 1, #[.string x], rfl, Nat.le_refl _, heap_alloc_new _ _, Nat.le_refl _, by unfold maxLen; omega, rfl, rfl⟩⟩
theorem own_more {w : World} {B n : Nat} {v : Value} {H : Nat → ByteArray} (h : w.ownsRow B 9 1 v n (tV H n)) (hB : B ≤ w.heap.size) (hn : n ≤ 1000000) (x : ByteArray) : ∃ v' w', (Builtin.append_ #[42, 42] 42 #[v, .slice (some ⟨w.heap.size, 0, none⟩) 1 1]).run Tryz.prog (w.alloc (.cells #[.string x] 9)) = .ok v' w' ∧ w'.ownsRow B 9 1 v' (n + 1) (tV (fun i => if i = n then x else H i) (n + 1)) ∧ (w.alloc (.cells #[.string x] 9)).grownBy w' v.ownBlock ∧ (v'.ownBlock = v.ownBlock ∨ v'.ownBlock = some (w.heap.size + 1)) := by
  obtain ⟨i0, hi0, z0, z1, z2⟩ := info_parts info9p
  obtain ⟨v', w', hr, ho, hg, hb⟩ := app_rows 42 Tryz.underlying42 hi0 z0 z1 z2 rfl (by decide) (h.alloc (.cells #[.string x] 9)) (own_text w x) (by intro u hu; simp at hu; subst hu; rfl) (by omega) (by omega) (by simp; omega)
  refine ⟨v', w', hr, ?_, hg, by simpa using hb⟩
  have e : tV (fun i => if i = n then x else H i) (n + 1) = tV H n ++ [.string x] := by
    unfold tV
    rw [List.range_succ, List.map_append]
    congr 1
    · apply List.map_congr_left
      intro i hi
      show Value.string (if i = n then x else H i) = Value.string (H i)
      rw [if_neg (by have := List.mem_range.1 hi; omega)]
    · simp
  rw [e]
  exact ho
theorem texL_more (H : Nat → ByteArray) (n : Nat) (x : ByteArray) : texL (fun i => if i = n then x else H i) (n + 1) = texL H n ++ [x] := by
  rw [texL_succ]
  congr 1
  · unfold texL
    apply List.map_congr_left
    intro i hi
    show (if i = n then x else H i) = H i
    rw [if_neg (by have := List.mem_range.1 hi; omega)]
  · simp
theorem mixed_any (L : Nat → ByteArray) (a o : Option Addr) (n cap no co : Nat) (w : World) (hn : n ≤ 1000) (hn0 : 0 < n) (hR : RawT w a n cap L) (hI : Ints w o no) :
    Calls Tryz.prog 22 #[.slice a n cap, .slice o no co] w fun e w' => ∃ v H, e = .returned v ∧ w'.ownsRow w.heap.size 9 1 v n (tV H n) ∧ (texL H n).Perm (texL L n) ∧ Below w.heap.size w w' := by
  obtain ⟨lv, w5, hr5, hcase, hb5⟩ := own_copy w a n cap L hR (by omega)
  obtain ⟨gl, gc, rfl, hglB, hgl, _⟩ : ∃ gl gc, lv = .slice (some ⟨gl, 0, none⟩) n gc ∧ w.heap.size ≤ gl ∧ gl < w5.heap.size ∧ Cl w5 gl n (tI L) := by
    rcases hcase with ⟨e, _⟩ | ⟨_, ho⟩
    · omega
    · exact own_row9 ho hn0
  have HLF : Hid (Lft w.heap.size gl gc n L w5) := by
    rcases hcase with ⟨e, _⟩ | ⟨_, ho⟩
    · omega
    · exact ho
  have HRUN : Hid _ := hr5
  have HB5 : Hid _ := hb5
  have HI : Hid _ := hI
  clear hr5 hcase hb5 hR hI hgl
  go_enter Tryz.func22, Tryz.ntmps22
  go_wp2_with (at_builtin; refine wpList_app rfl (.tmp 10) (.tmp 11) 42 rfl _ _ _ (by simp [Act.eval]) (by simp [Act.eval]) _ HRUN.out ?_)
  go_loopw [7, 5, 6] (fun iv lv ov wr => ∃ (i r : Nat) (G H : Nat → ByteArray) (vo : Value), r + i = n ∧ iv = .int .i64 i ∧ lv = .slice (some ⟨gl, 0, none⟩) r gc ∧ vo = ov ∧ Lft w.heap.size gl gc r G wr ∧ wr.ownsRow w.heap.size 9 1 vo i (tV H i) ∧ vo.ownBlock ≠ some gl ∧ Below w.heap.size w wr ∧ (texL H i ++ texL G r).Perm (texL L n)) (fun iv _ _ _ => n - (intOf iv).toNat)
  case atStart => exact ⟨0, n, L, fun _ => ⟨#[]⟩, _, by omega, rfl, rfl, rfl, HLF.out, ⟨rfl, .inl ⟨rfl, rfl⟩⟩, (fun e => by cases e), HB5.out, List.Perm.refl _⟩
  case round =>
    obtain ⟨i, r, G, H, vo, hri, rfl, rfl, rfl, hLf, hO, hap, hB, hP⟩ := hrel
    have HLf : Hid (Lft w.heap.size gl gc r G wr) := hLf
    have HO : Hid (wr.ownsRow w.heap.size 9 1 vo i (tV H i)) := hO
    have HAP : Hid _ := hap
    have HB : Hid _ := hB
    have HP : Hid _ := hP
    clear hLf hO hap hB hP
    by_cases hr : 0 < r
    · have hr1 : (0 : Int) < (r : Int) := by omega
      go_upto_if 21 with fail
      go_cut [8] from 13 to 44 (fun s8 wx => ∃ c : Int, s8 = .int .i64 c ∧ -9223372036854775808 ≤ c ∧ c ≤ 9223372036854775807 ∧ wx = wr)
      case first =>
        by_cases hin : i < no
        · obtain ⟨b, off, x, rfl, hb, hx, x0, x1⟩ := HI.out i hin
          have x2 : wr.cell? ⟨b, off + i, none⟩ = some (.int .i64 x) := (HB.out.cell (p := ⟨b, off + i, none⟩) hb).trans hx
          have hin1 : (i : Int) < (no : Int) := by omega
          go_wp2
          go_meet
          case rel => exact ⟨x, rfl, x0, x1, rfl⟩
        · have hin1 : ¬ ((i : Int) < (no : Int)) := by omega
          go_wp2
          go_meet
          case rel => exact ⟨0, rfl, by omega, by omega, rfl⟩
      case rest =>
        obtain ⟨c, rfl, c0, c1, rfl⟩ := hcut
        go_wp2_with fail
        refine (pick_at c r (r : Int) wc rfl hr (by omega) c0 c1).mono ?_
        rintro e w1 ⟨rfl, rfl⟩
        have hp := pk_lt c r hr
        obtain ⟨p, hpe⟩ : ∃ p, pk c r = p := ⟨_, rfl⟩
        rw [hpe] at hp ⊢
        clear hpe
        have x0 : w1.cell? ⟨gl, p, none⟩ = some (.string (G p)) := by
          have := World.ownsRow.cells HLf.out (g := gl) rfl p _ (tV_get G r p hp)
          rw [Addr.add_lit, Nat.zero_add] at this
          exact this
        have p1 : (p : Int) < (r : Int) := by omega
        obtain ⟨v', w2, hr2, ho2, hg2, hbk⟩ := own_more HO.out HB.out.size (by omega) (G p)
        have HRUN2 : Hid _ := hr2
        have hgl1 : gl < w1.heap.size := own_lt HLf.out gl rfl
        have HL2 : Hid (w2.ownsRow w.heap.size 9 1 (.slice (some ⟨gl, 0, none⟩) r gc) r (tV G r)) := World.ownsRow.kept (World.ownsRow.alloc HLf.out _) hg2 (.inr (fun e => HAP.out e.symm))
        have HO2 : Hid (w2.ownsRow w.heap.size 9 1 v' (i + 1) (tV (fun j => if j = i then G p else H j) (i + 1))) := ho2
        have HAP2 : Hid (v'.ownBlock ≠ some gl) := by
          rcases hbk with e | e
          · rw [e]; exact HAP.out
          · rw [e]; intro e'; cases e'; omega
        have HB2 : Hid (Below w.heap.size w w2) := (HB.out.alloc HB.out.size _).grown hg2 (by simp; have := HB.out.size; omega) (fun y hy => own_ge HO.out y hy)
        have HP2 : Hid ((texL (fun j => if j = i then G p else H j) (i + 1) ++ texL (delT G p) (r - 1)).Perm (texL L n)) := by
          refine List.Perm.trans ?_ HP.out
          rw [texL_more, List.append_assoc]
          exact (List.Perm.append_left _ (delT_perm G r p hp).symm)
        obtain ⟨cur, hcur, hglb, hrc, hcm, hcs, hcg⟩ := own_curT HL2.out
        have HCUR : Hid (w2.heap[gl]? = some (.cells cur 9 (0, 0))) := hcur
        obtain ⟨A, hA, hnews⟩ : ∃ A : Addr, (if gc = p + 1 then some (⟨gl, 0, none⟩ : Addr) else some ⟨gl, p + 1, none⟩) = some A ∧ Hid (∀ j u, (movT G p r)[j]? = some u → w2.drew.cell? (A.add j) = some u) := by
          by_cases h : gc = p + 1
          · refine ⟨⟨gl, 0, none⟩, by simp [h], fun j u hu => ?_⟩
            have hl0 : (movT G p r).length = 0 := by rw [movT_len]; omega
            rw [List.length_eq_zero_iff.1 hl0] at hu
            simp at hu
          · refine ⟨⟨gl, p + 1, none⟩, by simp [h], fun j u hu => ?_⟩
            have hj : j < r - (p + 1) := by
              have := (List.getElem?_eq_some_iff.1 hu).1
              rwa [movT_len] at this
            rw [movT_get _ _ _ _ hj] at hu
            rw [Addr.add_lit]
            have hc := World.ownsRow.cells HL2.out (g := gl) rfl (p + 1 + j) _ (tV_get G r _ (by omega))
            rw [Addr.add_lit, Nat.zero_add] at hc
            rw [← hu]
            exact hc
        have s1' : Hid ((movT G p r).length = (r - (p + 1)) * 1) := by show (movT G p r).length = _; rw [movT_len]; omega
        have s3' : Hid (∀ j, j < (movT G p r).length → (w2.drew.cell? ⟨gl, 0 + p * 1 + j, none⟩).isSome = true ∧ w2.drew.frozen? ⟨gl, 0 + p * 1 + j, none⟩ = false) := by
          intro j hj
          rw [movT_len] at hj
          refine ⟨?_, frozen_of_row _ _ _ _ 9 HCUR.out⟩
          have hc := World.ownsRow.cells HL2.out (g := gl) rfl (p + j) _ (tV_get G r _ (by omega))
          rw [Addr.add_lit] at hc
          show (w2.cell? _).isSome = true
          rw [Nat.zero_add, Nat.mul_one] at *
          rw [hc]; rfl
        have hpc : p ≤ gc := by omega
        have hwr : IntKind.i64.wrap ((p : Int) + 1) = (p : Int) + 1 := by rw [IntKind.wrap_i64]; omega
        have hp0 : (0 : Int) ≤ (p : Int) + 1 := by omega
        have hp1' : (p : Int) + 1 ≤ (r : Int) := by omega
        have hp2 : ((p : Int) + 1).toNat = p + 1 := by omega
        obtain ⟨av, cv, hvs⟩ := own_shape HO.out
        obtain ⟨av', cv', hvs'⟩ := own_shape HO2.out
        subst hvs hvs'
        obtain ⟨i9, hi9, z0, z1, z2⟩ := info_parts info9p
        have HI9 : Hid _ := hi9
        clear hr2 ho2 hg2 hbk hcur hcg
        go_wp2_with (at_builtin; refine wpList_app rfl (.tmp 30) (.tmp 35) 42 rfl _ _ _ (by simp [Act.eval]) (by simp [Act.eval]) _ HRUN2.out ?_)
        go_region_law (refine step_append_room rfl (.tmp 39) (.tmp 43) 42 rfl 9 i9 1 Tryz.underlying42 HI9.out z1 gl 0 p gc (by simp [Act.eval, Act.put]) A (r - (p + 1)) (gc - (p + 1)) (movT G p r) (by simp [Act.eval, Act.put]) s1'.out hnews.out (movT_one _ _ _) (by omega) s3'.out ?_)
        obtain ⟨W3, hW3⟩ : ∃ W3, w2.drew.setCells gl p (movT G p r) = W3 := ⟨_, rfl⟩
        have hrp : p + (r - (p + 1)) = r - 1 := by omega
        have HO3 : Hid (Lft w.heap.size gl gc (r - 1) (delT G p) W3) := by
          show W3.ownsRow _ _ _ _ _ _
          rw [← hW3]; exact own_delT (w := w2.drew) HL2.out p hp
        have HQ3 : Hid (W3.ownsRow w.heap.size 9 1 (.slice av' (i + 1) cv') (i + 1) (tV (fun j => if j = i then G p else H j) (i + 1))) := own_kept HO2.out (fun y hy => by rw [← hW3, setCells_other gl y (fun e => HAP2.out (by rw [← e]; exact hy))]; rfl)
        have HB3' : Hid (Below w.heap.size w W3) := by
          have hc : Calm w2.drew W3 := by rw [← hW3]; exact setCells_calm gl _ _ _
          have hs3 : W3.heap.size = w2.heap.size := by rw [← hW3]; exact setCells_size gl _ _ _
          have hb := HB2.out
          exact ⟨hc.1.trans hb.os, hc.2.1.trans hb.tape, hc.2.2.trans hb.output, by rw [hs3]; exact hb.size, fun k hk => by rw [← hW3, setCells_other gl k (by omega)]; exact hb.block k hk⟩
        rw [hW3, hrp]
        clear hW3 hA hwr
        go_wp2_with fail
        go_roundw
        case rel => exact ⟨i + 1, r - 1, delT G p, _, _, by omega, by go_num, rfl, rfl, HO3.out, HQ3.out, HAP2.out, HB3'.out, HP2.out⟩
        case measure => simp [intOf]; omega
    · have hr0 : r = 0 := by omega
      subst hr0
      have hin : i = n := by omega
      subst hin
      go_wp2_with fail
      go_ret
      exact ⟨vo, H, rfl, HO.out, by have := HP.out; simpa [texL] using this, HB.out⟩
end Go.Proofs.YtadinjaocnlglaaGreatDoor
namespace Go.Proofs.YtadinjaocnlglaaGreatDoor
open Go.RowKit Go.Maps
set_option maxRecDepth 100000
set_option maxHeartbeats 1000000
def esF (F : Nat → Ob) (q : Nat) : List (ByteArray × Nat) := (List.range q).map fun j => ((F j).1, (F j).2.size)
/-- the stream -/
def smF (F : Nat → Ob) (q : Nat) : ByteArray := jT (fun j => (F j).2) q
theorem bl_le {a b : ByteArray} (h : tlt a b) : leB a.data.toList b.data.toList = true := by
  unfold tlt at h
  rw [bytesLess_eq, ByteArray.toList_eq, ByteArray.toList_eq] at h
  exact decide_eq_true (List.le_of_lt (of_decide_eq_true h))
theorem nmF_eq {F : Nat → Ob} {q : Nat} (h : Srt q F) : nmF F q = nms (objs F q) := by
  unfold nmF
  apply List.mergeSort_of_pairwise
  unfold nms objs
  rw [List.map_map, List.pairwise_map]
  have h1 : (List.range q).Pairwise (fun i j => i < j) := List.pairwise_lt_range
  refine h1.imp_of_mem (fun {i j} hi hj hlt => ?_)
  exact bl_le (h.lt i j hlt (List.mem_range.1 hj))
theorem esF_len (F : Nat → Ob) (q : Nat) : (esF F q).length = q := by simp [esF]
theorem esF_take (F : Nat → Ob) (q j : Nat) (h : j ≤ q) : (esF F q).take j = esF F j := by
  unfold esF
  rw [← List.map_take, List.take_range, Nat.min_eq_left h]
theorem esF_sum (F : Nat → Ob) : ∀ q, lenE (esF F q) = (jL (fun j => (F j).2) q).length
  | 0 => rfl
  | q + 1 => by
    have e1 : esF F (q + 1) = esF F q ++ [((F q).1, (F q).2.size)] := by simp [esF, List.range_succ]
    have e2 : jL (fun j => (F j).2) (q + 1) = jL (fun j => (F j).2) q ++ (F q).2.data.toList := by simp [jL, List.range_succ]
    rw [e1, e2, lenE_app, esF_sum F q, List.length_append, dl]
    simp [lenE]
theorem sm_size (F : Nat → Ob) (q : Nat) : (smF F q).size = lenE (esF F q) := by
  rw [esF_sum, ← dl]
  rfl
theorem esF_get (F : Nat → Ob) (q j : Nat) (h : j < q) : nmE (esF F q) j = (F j).1 ∧ lnE (esF F q) j = (F j).2.size := by
  unfold nmE lnE esF
  simp [h]
theorem lst2_congr (h : List UInt8) (A B : Nat → ByteArray) (P Q : Nat → Nat) : ∀ n, (∀ j, j < n → A j = B j ∧ P j = Q j) → lst2 h A P n = lst2 h B Q n
  | 0, _ => rfl
  | n + 1, hh => by rw [lst2, lst2, lst2_congr h A B P Q n (fun j hj => hh j (by omega)), (hh n (by omega)).1, (hh n (by omega)).2]
section
variable {F : Nat → Ob} {q : Nat}
theorem ls_eq (h : Srt q F) (K M C V : Nat) : lsT K M C V (datOf F q) (nmF F q) = lsE K M C V (esF F q) := by
  have hl : (nmF F q).length = q := by rw [nmF_eq h]; simp [nms, objs]
  unfold lsT lsE lstT
  rw [hl, esF_len, lst2_congr _ _ (nmE (esF F q)) _ (lnE (esF F q)) q (fun j hj => ?_)]
  obtain ⟨e1, e2⟩ := esF_get F q j hj
  rw [e1, e2]
  have eg : (nmF F q)[j]? = some (F j).1.data.toList := by rw [nmF_eq h]; simp [nms, objs, hj]
  constructor
  · unfold nmT
    rw [List.getD_eq_getElem?_getD, eg]
    apply ba_ext; rfl
  · unfold lnT
    rw [eg]
    show (datOf F q (F j).1.data.toList).length = _
    rw [datOf_at h j hj, dl]
theorem dt_eq (h : Srt q F) : dtT (datOf F q) (nmF F q) = smF F q := by
  apply ba_ext
  show datL (datOf F q) (nmF F q) (nmF F q).length = jL (fun j => (F j).2) q
  unfold datL jL
  rw [List.take_length, nmF_eq h, flat_names h, List.flatMap_def]
  congr 1
  unfold objs
  rw [List.map_map]
  rfl
theorem rt_eq (h : Srt q F) (kt : Nat → Int) (K M C V : Nat) : rtT kt K M C V (datOf F q) (nmF F q) = rtE kt K M C V (esF F q) (smF F q) := by
  unfold rtT rtE
  rw [ls_eq h, dt_eq h]
  rfl
theorem vo_eq (h : Srt q F) (kt : Nat → Int) (K M C V v : Nat) : voT kt K M C V (datOf F q) (nmF F q) v = hdE kt K M C V (esF F q) (smF F q) v ++ reE K M C V (smF F q) v := by
  unfold voT
  rw [ls_eq h, dt_eq h, rt_eq h]
  rfl
end
theorem ord_of (e : Nat → ByteArray × Nat) : ∀ n k b, (∀ j, j < n → 1 ≤ (e (k + j)).1.size ∧ (e (k + j)).1.size ≤ 255) → (0 < n → leT (e k).1 b = false) → (∀ j, j + 1 < n → leT (e (k + j + 1)).1 (e (k + j)).1 = false) → EOrd b ((List.range n).map fun j => e (k + j))
  | 0, k, b, _, _, _ => trivial
  | n + 1, k, b, h1, h2, h3 => by
    rw [List.range_succ_eq_map, List.map_cons, List.map_map]
    have e1 : ((fun j => e (k + j)) ∘ Nat.succ) = fun j => e (k + 1 + j) := by
      funext j
      show e (k + (j + 1)) = e (k + 1 + j)
      rw [Nat.add_assoc, Nat.add_comm 1 j]
    rw [e1]
    refine ⟨(h1 0 (by omega)).1, (h1 0 (by omega)).2, h2 (by omega), ?_⟩
    refine ord_of e n (k + 1) _ (fun j hj => ?_) (fun h0 => ?_) (fun j hj => ?_)
    · have := h1 (j + 1) (by omega)
      rw [show k + (j + 1) = k + 1 + j by omega] at this
      exact this
    · exact h3 0 (by omega)
    · have := h3 (j + 1) (by omega)
      rw [show k + (j + 1) = k + 1 + j by omega] at this
      exact this
theorem le_of_tlt {a b : ByteArray} (h : tlt a b) : leT b a = false := by
  unfold tlt at h
  unfold leT
  cases h1 : Op.bytesLess b.toList a.toList with
  | true =>
    have := bl_trans _ _ _ h h1
    rw [bl_irr] at this; cases this
  | false =>
    cases h2 : b.toList == a.toList with
    | true =>
      have : b.toList = a.toList := by simpa using h2
      rw [this, bl_irr] at h; cases h
    | false => rfl
theorem le_of_nil {a : ByteArray} (h : 1 ≤ a.size) : leT a ⟨#[]⟩ = false := by
  unfold leT
  have e : (⟨#[]⟩ : ByteArray).toList = [] := by rw [ByteArray.toList_eq]
  rw [e]
  have h2 : a.toList ≠ [] := fun e => by
    rw [ByteArray.toList_eq] at e
    have := dl a
    rw [e] at this
    simp at this
    omega
  cases h3 : a.toList with
  | nil => exact absurd h3 h2
  | cons x r => rfl
theorem esF_ord {F : Nat → Ob} {q : Nat} (h : Srt q F) : EOrd ⟨#[]⟩ (esF F q) := by
  have := ord_of (fun j => ((F j).1, (F j).2.size)) q 0 ⟨#[]⟩ (fun j hj => by
    have := h.sz (0 + j) (by omega)
    exact ⟨this.1, Nat.le_trans this.2.1 (by omega)⟩) (fun h0 => le_of_nil (h.sz 0 h0).1) (fun j hj => le_of_tlt (h.lt (0 + j) (0 + j + 1) (by omega) (by omega)))
  simp only [Nat.zero_add] at this
  exact this
theorem sm_le {F : Nat → Ob} {q : Nat} (h : Srt q F) : (smF F q).size ≤ q * 12 := jT_size _ 12 q (fun i hi => (h.sz i hi).2.2)
theorem srt_ok {F : Nat → Ob} {q K M C V : Nat} (h : Srt q F) (hK1 : 1 ≤ K) (hK2 : K ≤ 5) (hM : M ≤ 3) (hC1 : 1 ≤ C) (hC2 : C ≤ 8) (hV1 : 1 ≤ V) (hV2 : V ≤ 5) (hq : q ≤ 5) : VOk K M C V (nbT K M C (smF F q)) (esF F q) (smF F q) where
  lok := ⟨hK1, by omega, hC1, by omega, hV1, by omega, by rw [esF_len]; omega, by have := sm_le h; rw [← sm_size]; omega, esF_ord h⟩
  len := sm_size F q
  ct := rfl
  c512 := by
    have h1 := nst_len (K * C) (smF F q).size (Nat.mul_pos hK1 hC1)
    have h2 := sm_le h
    show nst (K * C) (smF F q).size * (K + M) ≤ 512
    exact Nat.le_trans (Nat.mul_le_mul (Nat.le_trans h1 (Nat.le_trans h2 (Nat.mul_le_mul_right 12 hq))) (show K + M ≤ 8 by omega)) (by omega)
/-- the j-th object out of the stream -/
theorem un_one {F : Nat → Ob} {q : Nat} {kt : Nat → Int} {T : TT} {bl : Nat → ByteArray} {j : Nat} (hj : j < q) (hes : T.L.es = esF F q) (hb : ∀ x, lenE ((esF F q).take j) ≤ x → x < lenE ((esF F q).take j) + (F j).2.size → byteS kt T bl x = (smF F q).data.toList.getD x 0) : unO kt T bl j = F j := by
  obtain ⟨e1, e2⟩ := esF_get F q j hj
  unfold unO
  rw [hes, e1, e2]
  have hs : strS kt T bl (lenE ((esF F q).take j)) (lenE ((esF F q).take j) + (F j).2.size) = (F j).2.data.toList := by
    unfold strS
    rw [Nat.add_sub_cancel_left]
    have e3 : (List.range (F j).2.size).map (fun i => byteS kt T bl (lenE ((esF F q).take j) + i)) = (List.range (F j).2.size).map (fun i => (smF F q).data.toList.getD (lenE ((esF F q).take j) + i) 0) := by
      apply List.map_congr_left
      intro i hi
      exact hb _ (by omega) (by have := List.mem_range.1 hi; omega)
    obtain ⟨r, hr⟩ := jL_split (fun j => (F j).2) q j hj
    have e4 : (smF F q).data.toList = jL (fun j => (F j).2) j ++ (F j).2.data.toList ++ r := hr
    have e5 : lenE ((esF F q).take j) = (jL (fun j => (F j).2) j).length := by rw [esF_take F q j (by omega), esF_sum]
    rw [e3, list_cut _ _ _ (by rw [e4, e5]; simp only [List.length_append, dl]; omega), e4, e5, List.append_assoc, List.drop_left, ← dl, List.take_left]
  rw [hs]
end Go.Proofs.YtadinjaocnlglaaGreatDoor
namespace Go.Proofs.YtadinjaocnlglaaGreatDoor
open Go.RowKit Go.Maps
set_option maxRecDepth 100000
set_option maxHeartbeats 1000000
theorem texL_mem {L : Nat → ByteArray} {n : Nat} {t : ByteArray} : t ∈ texL L n ↔ ∃ j, j < n ∧ L j = t := by
  unfold texL
  simp [List.mem_map]
theorem texL_nodup {L : Nat → ByteArray} {n : Nat} : (texL L n).Nodup ↔ ∀ j k, j < n → k < n → j ≠ k → L j ≠ L k := by
  unfold texL List.Nodup
  rw [List.pairwise_map]
  constructor
  · intro h j k hj hk hne
    rcases Nat.lt_or_gt_of_ne hne with h1 | h1
    · have := List.pairwise_iff_getElem.1 h j k (by simpa using hj) (by simpa using hk) h1
      simpa using this
    · have := List.pairwise_iff_getElem.1 h k j (by simpa using hk) (by simpa using hj) h1
      simpa using fun e => this (by simpa using e.symm)
  · intro h
    have h1 : (List.range n).Pairwise (fun i j => i < j) := List.pairwise_lt_range
    exact h1.imp_of_mem (fun {i j} hi hj hlt => h i j (List.mem_range.1 hi) (List.mem_range.1 hj) (by omega))
theorem perm_part {H L : Nat → ByteArray} {V : Nat} (hp : (texL H V).Perm (texL L V)) (hi : ∀ u v, u < V → v < V → u ≠ v → L u ≠ L v) : ∃ Nu : Nat → Nat, (∀ j, j < V → Nu j < V ∧ H j = L (Nu j)) ∧ (∀ j k, j < V → k < V → j ≠ k → Nu j ≠ Nu k) ∧ ∀ v, v < V → ∃ j, j < V ∧ Nu j = v := by
  have h1 : ∀ j, j < V → ∃ u, u < V ∧ L u = H j := fun j hj => texL_mem.1 (hp.mem_iff.1 (texL_mem.2 ⟨j, hj, rfl⟩))
  have hnd := texL_nodup.1 (hp.nodup_iff.2 (texL_nodup.2 hi))
  obtain ⟨Nu, hN⟩ : ∃ Nu : Nat → Nat, ∀ j, j < V → Nu j < V ∧ L (Nu j) = H j := ⟨fun j => if h : j < V then Classical.choose (h1 j h) else 0, fun j hj => by
    show (if h : j < V then Classical.choose (h1 j h) else 0) < V ∧ L (if h : j < V then Classical.choose (h1 j h) else 0) = H j
    rw [dif_pos hj]
    exact Classical.choose_spec (h1 j hj)⟩
  refine ⟨Nu, fun j hj => ⟨(hN j hj).1, (hN j hj).2.symm⟩, fun j k hj hk hne e => hnd j k hj hk hne (by rw [← (hN j hj).2, ← (hN k hk).2, e]), fun v hv => ?_⟩
  obtain ⟨j, hj, e⟩ := texL_mem.1 (hp.mem_iff.2 (texL_mem.2 ⟨v, hv, rfl⟩))
  refine ⟨j, hj, ?_⟩
  by_cases h : Nu j = v
  · exact h
  · exact absurd ((hN j hj).2.trans e) (hi _ _ (hN j hj).1 hv h)
section
variable {kt : Nat → Int} {K M C V cnt : Nat} {es : List (ByteArray × Nat)} {s : ByteArray}
theorem VOk.rest (h : VOk K M C V cnt es s) {v : Nat} (hv : v < V) : (reE K M C V s v).size = ((v + 1) * cnt / V - v * cnt / V) * C ∧ ∀ i, i < (v + 1) * cnt / V - v * cnt / V → pc (reE K M C V s v) C i = bkT K M C s (v * cnt / V + i) := by
  have hnb : nbT K M C s = cnt := h.ct
  have hen : (v + 1) * cnt / V ≤ cnt := Nat.le_trans (Nat.div_le_div_right (Nat.mul_le_mul_right _ hv)) (by rw [Nat.mul_div_cancel_left _ h.lok.v1]; exact Nat.le_refl _)
  have hb : ∀ i, i < (v + 1) * cnt / V - v * cnt / V → (bkT K M C s (v * cnt / V + i)).size = C := fun i hi => h.bk (Nat.lt_of_lt_of_le (by omega : v * cnt / V + i < (v + 1) * cnt / V) hen)
  unfold reE
  rw [hnb]
  exact ⟨jT_eq _ C _ hb, fun i hi => pc_jT (F := fun i => bkT K M C s (v * cnt / V + i)) hb hi⟩
theorem VOk.inj (kt : Nat → Int) (h : VOk K M C V cnt es s) (R : Nat → ByteArray) : ∀ u v, u < V → v < V → u ≠ v → hdE kt K M C V es s u ++ R u ≠ hdE kt K M C V es s v ++ R v := fun u v hu hv hne e => by
  have e1 := (h.wrt kt hu (R u)).tld.num
  have e2 := (h.wrt kt hv (R v)).tld.num
  rw [e, e2] at e1
  exact hne e1.symm
/-- all blocks are there -/
theorem Part.all {L : Nat → ByteArray} {n : Nat} {Nu : Nat → Nat} (p : Part kt K M C V cnt es s L n Nu (fun j => reE K M C V s (Nu j))) (h : VOk K M C V cnt es s) (hs : ∀ v, v < V → ∃ j, j < n ∧ Nu j = v) {x : Nat} (hx : x < cnt) : blL L n x = bkT K M C s x := by
  obtain ⟨v, hv, h1, h2⟩ := in_range cnt V x V (by rw [Nat.mul_div_cancel_left _ h.lok.v1]; exact hx)
  obtain ⟨j, hj, e⟩ := hs v hv
  obtain ⟨r1, r2⟩ := h.rest hv
  have := p.bl h (j := j) (i := x - v * cnt / V) hj (by
    show _ < (reE K M C V s (Nu j)).size / C
    rw [e, r1, Nat.mul_div_cancel _ h.lok.c1]; omega)
  have this' : blL L n (Nu j * cnt / V + (x - v * cnt / V)) = pc (reE K M C V s (Nu j)) C (x - v * cnt / V) := this
  rw [e, r2 _ (by omega), show v * cnt / V + (x - v * cnt / V) = x by omega] at this'
  exact this'
/-- a vault of which all blocks are as they were written -/
theorem VOk.whole (h : VOk K M C V cnt es s) {T : TT} {v : Nat} {root lst : ByteArray} {l : List UInt8} (hT : Tld T K M C V v es root lst (lvE kt K M C s) l) {bl : Nat → ByteArray} (hb : ∀ x, x < cnt → bl x = bkT K M C s x) :
    ∀ st, st < nst (K * C) s.size → (∀ i, i < K + M → stH kt T bl st i = true) ∧ stF kt T bl st = 0 ∧ ∀ i, i < K + M → stM kt T bl st i = bkT K M C s (st * (K + M) + i) := fun st hst => by
  have hn : T.n = K + M := by unfold TT.n; rw [hT.K, hT.M]
  have hx : ∀ i, i < K + M → st * (K + M) + i < cnt := fun i hi => by
    have h1 : (st + 1) * (K + M) ≤ nst (K * C) s.size * (K + M) := Nat.mul_le_mul_right _ hst
    rw [h.ct, Nat.succ_mul] at h1
    omega
  have hH : ∀ i, i < K + M → stH kt T bl st i = true := fun i hi => by
    unfold stH
    rw [hn, hT.C, hT.lv, hb _ (hx i hi)]
    unfold goodB
    rw [lv_pc kt K M C s (by unfold nbT; rw [h.ct]; exact hx i hi)]
    exact decide_eq_true ⟨h.bk (hx i hi), rfl⟩
  refine ⟨hH, h.stripe hT hst (fun i hi _ => hb _ (hx i hi)) ?_⟩
  rw [cnt_same _ (fun _ => true) (K + M) hH, cnt_all]
  omega
/-- what Repair makes of it -/
theorem VOk.remade (h : VOk K M C V cnt es s) {T : TT} {v : Nat} {root lst : ByteArray} {l : List UInt8} (hT : Tld T K M C V v es root lst (lvE kt K M C s) l) {A : Nat → ByteArray} (hA : ∀ x, x < cnt → A x = bkT K M C s x) {u : Nat} (hu : u < V) : reV kt T A u = hdE kt K M C V es s u ++ reE K M C V s u := by
  have hc : T.L.cnt = nbT K M C s := by unfold LT.cnt nbT; rw [hT.K, hT.M, hT.C, hT.es, ← h.len]
  have hnb : nbT K M C s = cnt := h.ct
  rw [reV_congr (B := bkT K M C s) (fun x hx => hA x (by rw [← hnb, ← hc]; exact hx)) (by rw [hT.V]; exact h.lok.v1) (by rw [hT.V]; exact hu)]
  unfold reV
  have hl : T.ls = lsE K M C V es := by unfold TT.ls lsE; rw [hT.K, hT.M, hT.C, hT.V, hT.es]
  rw [hl, hc, hT.V]
  rfl
end
end Go.Proofs.YtadinjaocnlglaaGreatDoor
namespace Go.Proofs.YtadinjaocnlglaaGreatDoor
open Go.RowKit
set_option maxRecDepth 100000
set_option maxHeartbeats 2000000
theorem Ints.below {w w' : World} {a : Option Addr} {n : Nat} (h : Ints w a n) (hb : Below w.heap.size w w') : Ints w' a n := fun i hi => by
  obtain ⟨b, off, x, h1, h2, h3, h4⟩ := h i hi
  exact ⟨b, off, x, h1, Nat.lt_of_lt_of_le h2 hb.size, (hb.cell (p := ⟨b, off + i, none⟩) h2).trans h3, h4⟩
end Go.Proofs.YtadinjaocnlglaaGreatDoor
namespace Go.Proofs.YtadinjaocnlglaaGreatDoor
open Go.RowKit
set_option maxRecDepth 100000
set_option maxHeartbeats 4000000
def Q3 (q f v j : Nat) : Prop := j = q ∨ j = f ∨ j = v
theorem own_hi {w w' : World} {base e size n q f v : Nat} {val : Value} {xs : List Value} (h : w.ownsRow base e size val n xs) (hF : Fr (Q3 q f v) w w') (hq : q < base) (hf : f < base) (hv : v < base) : w'.ownsRow base e size val n xs :=
  own_kept h (fun r hr => hF.old r (own_lt h r hr) (fun e => by
    have := own_ge h r hr
    rcases e with e | e | e <;> omega))
theorem VK.below {kt : Nat → Int} {B v k g p q f : Nat} {T : TT} {un : Value} {ul : List Nat} {rd : Nat → Bool} {bl : Nat → ByteArray} {w w' : World} (h : VK kt B v k g p q f T un ul rd bl w) (hb : Below w.heap.size w w') : VK kt B v k g p q f T un ul rd bl w' := by
  obtain ⟨hv, dn, zs, bd, hs⟩ := h
  refine ⟨?_, dn, zs, bd, hs.below hb⟩
  have hl : v < w.heap.size := (Array.getElem?_eq_some_iff.1 hv).1
  unfold VL at hv ⊢
  rw [hb.block v hl]; exact hv
theorem VK.lt {kt : Nat → Int} {B v k g p q f : Nat} {T : TT} {un : Value} {ul : List Nat} {rd : Nat → Bool} {bl : Nat → ByteArray} {w : World} (h : VK kt B v k g p q f T un ul rd bl w) : q < w.heap.size ∧ f < w.heap.size ∧ v < w.heap.size := by
  obtain ⟨hv, dn, zs, bd, hs⟩ := h
  exact ⟨hs.blR.lt, hs.fiR.lt, (Array.getElem?_eq_some_iff.1 hv).1⟩
end Go.Proofs.YtadinjaocnlglaaGreatDoor
