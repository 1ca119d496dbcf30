/-
  The walk of vaultkeep.Clean.
  The walk of vaultkeep's mixed.
  A Stock's objects parted from the names of those that are lost.
  The walk of Stock.part at every Stock.
  Unpack of a Stock, and of a Vault, at every one: what comes out, and the error that names what is lost.
  A Vault's Unpack at every Vault.
-/
import Derived.Test.YtadinjaocnlglaaGreatDoorZ36
import Derived.Test.YtadinjaocnlglaaGreatDoorZ37
namespace Go.Proofs.YtadinjaocnlglaaGreatDoor
open Go.RowKit
set_option maxRecDepth 100000
set_option maxHeartbeats 4000000
theorem RawT.below {w w' : World} {a : Option Addr} {n cap : Nat} {L : Nat → ByteArray} (h : RawT w a n cap L) (hb : Below w.heap.size w w') : RawT w' a n cap L := by
  rcases h with h | ⟨ad, rfl, hc⟩
  · exact .inl h
  · exact .inr ⟨ad, rfl, fun i hi => by
      obtain ⟨b, off, e, h1, h2⟩ := hc i hi
      exact ⟨b, off, e, Nat.lt_of_lt_of_le h1 hb.size, (hb.cell (p := ⟨b, off + i, none⟩) h1).trans h2⟩⟩
/-- while texts are looked for -/
def Lft (B g cap r : Nat) (G : Nat → ByteArray) (w : World) : Prop := w.ownsRow B 9 1 (.slice (some ⟨g, 0, none⟩) r cap) r (tV G r)
end Go.Proofs.YtadinjaocnlglaaGreatDoor
namespace Go.Proofs.YtadinjaocnlglaaGreatDoor
open Go.RowKit
set_option maxRecDepth 100000
set_option maxHeartbeats 4000000
theorem eraseT_perm : ∀ (l : List ByteArray) (p : Nat) (h : p < l.length), l.Perm (l[p] :: l.eraseIdx p)
  | [], _, h => by simp at h
  | x :: r, 0, _ => List.Perm.refl _
  | x :: r, p + 1, h => ((eraseT_perm r p (by simpa using h)).cons x).trans (List.Perm.swap _ _ _)
theorem delT_perm (G : Nat → ByteArray) (r p : Nat) (hp : p < r) : (texL G r).Perm (G p :: texL (delT G p) (r - 1)) := by
  have hl : p < (texL G r).length := by rw [texL_len]; exact hp
  have h1 := eraseT_perm _ p hl
  have e1 : (texL G r)[p] = G p := by simp [texL]
  have e2 : (texL G r).eraseIdx p = texL (delT G p) (r - 1) := by
    apply List.ext_getElem?
    intro i
    rw [List.getElem?_eraseIdx]
    unfold texL delT
    simp only [List.getElem?_map]
    by_cases hi : i < r - 1
    · rw [List.getElem?_range hi]
      by_cases e : i < p
      · rw [if_pos e, List.getElem?_range (by omega)]
        simp [e]
      · rw [if_neg e, List.getElem?_range (by omega)]
        simp [e]
    · rw [List.getElem?_eq_none (l := List.range (r - 1)) (by simp; omega)]
      split
      · omega
      · rw [List.getElem?_eq_none (by simp; omega)]
        rfl
  rw [e1, e2] at h1
  exact h1
theorem own_text (w : World) (x : ByteArray) : (w.alloc (.cells #[.string x] 9)).ownsRow w.heap.size 9 1 (.slice (some ⟨w.heap.size, 0, none⟩) 1 1) 1 [.string x] :=
  ⟨rfl, .inr ⟨w.heap.size, 1, #[.string x], rfl, Nat.le_refl _, heap_alloc_new _ _, Nat.le_refl _, by unfold maxLen; omega, rfl, rfl⟩⟩
theorem own_more {w : World} {B n : Nat} {v : Value} {H : Nat → ByteArray} (h : w.ownsRow B 9 1 v n (tV H n)) (hB : B ≤ w.heap.size) (hn : n ≤ 1000000) (x : ByteArray) : ∃ v' w', (Builtin.append_ #[42, 42] 42 #[v, .slice (some ⟨w.heap.size, 0, none⟩) 1 1]).run Tryz.prog (w.alloc (.cells #[.string x] 9)) = .ok v' w' ∧ w'.ownsRow B 9 1 v' (n + 1) (tV (fun i => if i = n then x else H i) (n + 1)) ∧ (w.alloc (.cells #[.string x] 9)).grownBy w' v.ownBlock ∧ (v'.ownBlock = v.ownBlock ∨ v'.ownBlock = some (w.heap.size + 1)) := by
  obtain ⟨i0, hi0, z0, z1, z2⟩ := info_parts info9p
  obtain ⟨v', w', hr, ho, hg, hb⟩ := app_rows 42 Tryz.underlying42 hi0 z0 z1 z2 rfl (by decide) (h.alloc (.cells #[.string x] 9)) (own_text w x) (by intro u hu; simp at hu; subst hu; rfl) (by omega) (by omega) (by simp; omega)
  refine ⟨v', w', hr, ?_, hg, by simpa using hb⟩
  have e : tV (fun i => if i = n then x else H i) (n + 1) = tV H n ++ [.string x] := by
    unfold tV
    rw [List.range_succ, List.map_append]
    congr 1
    · apply List.map_congr_left
      intro i hi
      show Value.string (if i = n then x else H i) = Value.string (H i)
      rw [if_neg (by have := List.mem_range.1 hi; omega)]
    · simp
  rw [e]
  exact ho
theorem texL_more (H : Nat → ByteArray) (n : Nat) (x : ByteArray) : texL (fun i => if i = n then x else H i) (n + 1) = texL H n ++ [x] := by
  rw [texL_succ]
  congr 1
  · unfold texL
    apply List.map_congr_left
    intro i hi
    show (if i = n then x else H i) = H i
    rw [if_neg (by have := List.mem_range.1 hi; omega)]
  · simp
theorem mixed_any (L : Nat → ByteArray) (a o : Option Addr) (n cap no co : Nat) (w : World) (hn : n ≤ 1000) (hn0 : 0 < n) (hR : RawT w a n cap L) (hI : Ints w o no) :
    Calls Tryz.prog 22 #[.slice a n cap, .slice o no co] w fun e w' => ∃ v H, e = .returned v ∧ w'.ownsRow w.heap.size 9 1 v n (tV H n) ∧ (texL H n).Perm (texL L n) ∧ Below w.heap.size w w' := by
  obtain ⟨lv, w5, hr5, hcase, hb5⟩ := own_copy w a n cap L hR (by omega)
  obtain ⟨gl, gc, rfl, hglB, hgl, _⟩ : ∃ gl gc, lv = .slice (some ⟨gl, 0, none⟩) n gc ∧ w.heap.size ≤ gl ∧ gl < w5.heap.size ∧ Cl w5 gl n (tI L) := by
    rcases hcase with ⟨e, _⟩ | ⟨_, ho⟩
    · omega
    · exact own_row9 ho hn0
  have HLF : Hid (Lft w.heap.size gl gc n L w5) := by
    rcases hcase with ⟨e, _⟩ | ⟨_, ho⟩
    · omega
    · exact ho
  have HRUN : Hid _ := hr5
  have HB5 : Hid _ := hb5
  have HI : Hid _ := hI
  clear hr5 hcase hb5 hR hI hgl
  go_enter Tryz.func22, Tryz.ntmps22
  go_wp2_with (at_builtin; refine wpList_app rfl (.tmp 10) (.tmp 11) 42 rfl _ _ _ (by simp [Act.eval]) (by simp [Act.eval]) _ HRUN.out ?_)
  go_loopw [7, 5, 6] (fun iv lv ov wr => ∃ (i r : Nat) (G H : Nat → ByteArray) (vo : Value), r + i = n ∧ iv = .int .i64 i ∧ lv = .slice (some ⟨gl, 0, none⟩) r gc ∧ vo = ov ∧ Lft w.heap.size gl gc r G wr ∧ wr.ownsRow w.heap.size 9 1 vo i (tV H i) ∧ vo.ownBlock ≠ some gl ∧ Below w.heap.size w wr ∧ (texL H i ++ texL G r).Perm (texL L n)) (fun iv _ _ _ => n - (intOf iv).toNat)
  case atStart => exact ⟨0, n, L, fun _ => ⟨#[]⟩, _, by omega, rfl, rfl, rfl, HLF.out, ⟨rfl, .inl ⟨rfl, rfl⟩⟩, (fun e => by cases e), HB5.out, List.Perm.refl _⟩
  case round =>
    obtain ⟨i, r, G, H, vo, hri, rfl, rfl, rfl, hLf, hO, hap, hB, hP⟩ := hrel
    have HLf : Hid (Lft w.heap.size gl gc r G wr) := hLf
    have HO : Hid (wr.ownsRow w.heap.size 9 1 vo i (tV H i)) := hO
    have HAP : Hid _ := hap
    have HB : Hid _ := hB
    have HP : Hid _ := hP
    clear hLf hO hap hB hP
    by_cases hr : 0 < r
    · have hr1 : (0 : Int) < (r : Int) := by omega
      go_upto_if 21 with fail
      go_cut [8] from 13 to 44 (fun s8 wx => ∃ c : Int, s8 = .int .i64 c ∧ -9223372036854775808 ≤ c ∧ c ≤ 9223372036854775807 ∧ wx = wr)
      case first =>
        by_cases hin : i < no
        · obtain ⟨b, off, x, rfl, hb, hx, x0, x1⟩ := HI.out i hin
          have x2 : wr.cell? ⟨b, off + i, none⟩ = some (.int .i64 x) := (HB.out.cell (p := ⟨b, off + i, none⟩) hb).trans hx
          have hin1 : (i : Int) < (no : Int) := by omega
          go_wp2
          go_meet
          case rel => exact ⟨x, rfl, x0, x1, rfl⟩
        · have hin1 : ¬ ((i : Int) < (no : Int)) := by omega
          go_wp2
          go_meet
          case rel => exact ⟨0, rfl, by omega, by omega, rfl⟩
      case rest =>
        obtain ⟨c, rfl, c0, c1, rfl⟩ := hcut
        go_wp2_with fail
        refine (pick_at c r (r : Int) wc rfl hr (by omega) c0 c1).mono ?_
        rintro e w1 ⟨rfl, rfl⟩
        have hp := pk_lt c r hr
        obtain ⟨p, hpe⟩ : ∃ p, pk c r = p := ⟨_, rfl⟩
        rw [hpe] at hp ⊢
        clear hpe
        have x0 : w1.cell? ⟨gl, p, none⟩ = some (.string (G p)) := by
          have := World.ownsRow.cells HLf.out (g := gl) rfl p _ (tV_get G r p hp)
          rw [Addr.add_lit, Nat.zero_add] at this
          exact this
        have p1 : (p : Int) < (r : Int) := by omega
        obtain ⟨v', w2, hr2, ho2, hg2, hbk⟩ := own_more HO.out HB.out.size (by omega) (G p)
        have HRUN2 : Hid _ := hr2
        have hgl1 : gl < w1.heap.size := own_lt HLf.out gl rfl
        have HL2 : Hid (w2.ownsRow w.heap.size 9 1 (.slice (some ⟨gl, 0, none⟩) r gc) r (tV G r)) := World.ownsRow.kept (World.ownsRow.alloc HLf.out _) hg2 (.inr (fun e => HAP.out e.symm))
        have HO2 : Hid (w2.ownsRow w.heap.size 9 1 v' (i + 1) (tV (fun j => if j = i then G p else H j) (i + 1))) := ho2
        have HAP2 : Hid (v'.ownBlock ≠ some gl) := by
          rcases hbk with e | e
          · rw [e]; exact HAP.out
          · rw [e]; intro e'; cases e'; omega
        have HB2 : Hid (Below w.heap.size w w2) := (HB.out.alloc HB.out.size _).grown hg2 (by simp; have := HB.out.size; omega) (fun y hy => own_ge HO.out y hy)
        have HP2 : Hid ((texL (fun j => if j = i then G p else H j) (i + 1) ++ texL (delT G p) (r - 1)).Perm (texL L n)) := by
          refine List.Perm.trans ?_ HP.out
          rw [texL_more, List.append_assoc]
          exact (List.Perm.append_left _ (delT_perm G r p hp).symm)
        obtain ⟨cur, hcur, hglb, hrc, hcm, hcs, hcg⟩ := own_curT HL2.out
        have HCUR : Hid (w2.heap[gl]? = some (.cells cur 9 (0, 0))) := hcur
        obtain ⟨A, hA, hnews⟩ : ∃ A : Addr, (if gc = p + 1 then some (⟨gl, 0, none⟩ : Addr) else some ⟨gl, p + 1, none⟩) = some A ∧ Hid (∀ j u, (movT G p r)[j]? = some u → w2.drew.cell? (A.add j) = some u) := by
          by_cases h : gc = p + 1
          · refine ⟨⟨gl, 0, none⟩, by simp [h], fun j u hu => ?_⟩
            have hl0 : (movT G p r).length = 0 := by rw [movT_len]; omega
            rw [List.length_eq_zero_iff.1 hl0] at hu
            simp at hu
          · refine ⟨⟨gl, p + 1, none⟩, by simp [h], fun j u hu => ?_⟩
            have hj : j < r - (p + 1) := by
              have := (List.getElem?_eq_some_iff.1 hu).1
              rwa [movT_len] at this
            rw [movT_get _ _ _ _ hj] at hu
            rw [Addr.add_lit]
            have hc := World.ownsRow.cells HL2.out (g := gl) rfl (p + 1 + j) _ (tV_get G r _ (by omega))
            rw [Addr.add_lit, Nat.zero_add] at hc
            rw [← hu]
            exact hc
        have s1' : Hid ((movT G p r).length = (r - (p + 1)) * 1) := by show (movT G p r).length = _; rw [movT_len]; omega
        have s3' : Hid (∀ j, j < (movT G p r).length → (w2.drew.cell? ⟨gl, 0 + p * 1 + j, none⟩).isSome = true ∧ w2.drew.frozen? ⟨gl, 0 + p * 1 + j, none⟩ = false) := by
          intro j hj
          rw [movT_len] at hj
          refine ⟨?_, frozen_of_row _ _ _ _ 9 HCUR.out⟩
          have hc := World.ownsRow.cells HL2.out (g := gl) rfl (p + j) _ (tV_get G r _ (by omega))
          rw [Addr.add_lit] at hc
          show (w2.cell? _).isSome = true
          rw [Nat.zero_add, Nat.mul_one] at *
          rw [hc]; rfl
        have hpc : p ≤ gc := by omega
        have hwr : IntKind.i64.wrap ((p : Int) + 1) = (p : Int) + 1 := by rw [IntKind.wrap_i64]; omega
        have hp0 : (0 : Int) ≤ (p : Int) + 1 := by omega
        have hp1' : (p : Int) + 1 ≤ (r : Int) := by omega
        have hp2 : ((p : Int) + 1).toNat = p + 1 := by omega
        obtain ⟨av, cv, hvs⟩ := own_shape HO.out
        obtain ⟨av', cv', hvs'⟩ := own_shape HO2.out
        subst hvs hvs'
        obtain ⟨i9, hi9, z0, z1, z2⟩ := info_parts info9p
        have HI9 : Hid _ := hi9
        clear hr2 ho2 hg2 hbk hcur hcg
        go_wp2_with (at_builtin; refine wpList_app rfl (.tmp 30) (.tmp 35) 42 rfl _ _ _ (by simp [Act.eval]) (by simp [Act.eval]) _ HRUN2.out ?_)
        go_region_law (refine step_append_room rfl (.tmp 39) (.tmp 43) 42 rfl 9 i9 1 Tryz.underlying42 HI9.out z1 gl 0 p gc (by simp [Act.eval, Act.put]) A (r - (p + 1)) (gc - (p + 1)) (movT G p r) (by simp [Act.eval, Act.put]) s1'.out hnews.out (movT_one _ _ _) (by omega) s3'.out ?_)
        obtain ⟨W3, hW3⟩ : ∃ W3, w2.drew.setCells gl p (movT G p r) = W3 := ⟨_, rfl⟩
        have hrp : p + (r - (p + 1)) = r - 1 := by omega
        have HO3 : Hid (Lft w.heap.size gl gc (r - 1) (delT G p) W3) := by
          show W3.ownsRow _ _ _ _ _ _
          rw [← hW3]; exact own_delT (w := w2.drew) HL2.out p hp
        have HQ3 : Hid (W3.ownsRow w.heap.size 9 1 (.slice av' (i + 1) cv') (i + 1) (tV (fun j => if j = i then G p else H j) (i + 1))) := own_kept HO2.out (fun y hy => by rw [← hW3, setCells_other gl y (fun e => HAP2.out (by rw [← e]; exact hy))]; rfl)
        have HB3' : Hid (Below w.heap.size w W3) := by
          have hc : Calm w2.drew W3 := by rw [← hW3]; exact setCells_calm gl _ _ _
          have hs3 : W3.heap.size = w2.heap.size := by rw [← hW3]; exact setCells_size gl _ _ _
          have hb := HB2.out
          exact ⟨hc.1.trans hb.os, hc.2.1.trans hb.tape, hc.2.2.trans hb.output, by rw [hs3]; exact hb.size, fun k hk => by rw [← hW3, setCells_other gl k (by omega)]; exact hb.block k hk⟩
        rw [hW3, hrp]
        clear hW3 hA hwr
        go_wp2_with fail
        go_roundw
        case rel => exact ⟨i + 1, r - 1, delT G p, _, _, by omega, by go_num, rfl, rfl, HO3.out, HQ3.out, HAP2.out, HB3'.out, HP2.out⟩
        case measure => simp [intOf]; omega
    · have hr0 : r = 0 := by omega
      subst hr0
      have hin : i = n := by omega
      subst hin
      go_wp2_with fail
      go_ret
      exact ⟨vo, H, rfl, HO.out, by have := HP.out; simpa [texL] using this, HB.out⟩
end Go.Proofs.YtadinjaocnlglaaGreatDoor
namespace Go.Proofs.YtadinjaocnlglaaGreatDoor
open Go.RowKit
set_option maxRecDepth 100000
set_option maxHeartbeats 4000000
/-- does an object lie in stripes that are whole alone? -/
def finJ (kt : Nat → Int) (T : TT) (bl : Nat → ByteArray) (j : Nat) : Bool := (List.range (lnE T.L.es j)).all (fun i => decide (stF kt T bl ((lenE (T.L.es.take j) + i) / (T.L.K * T.L.C)) = 0))
theorem finJ_yes {kt : Nat → Int} {T : TT} {bl : Nat → ByteArray} {j : Nat} (h : ∀ x, lenE (T.L.es.take j) ≤ x → x < lenE (T.L.es.take j) + lnE T.L.es j → stF kt T bl (x / (T.L.K * T.L.C)) = 0) : finJ kt T bl j = true := by
  unfold finJ
  rw [List.all_eq_true]
  exact fun i hi => decide_eq_true (h _ (by omega) (by have := List.mem_range.1 hi; omega))
theorem finJ_no {kt : Nat → Int} {T : TT} {bl : Nat → ByteArray} {j : Nat} (h : ∃ x, lenE (T.L.es.take j) ≤ x ∧ x < lenE (T.L.es.take j) + lnE T.L.es j ∧ stF kt T bl (x / (T.L.K * T.L.C)) ≠ 0) : finJ kt T bl j = false := by
  obtain ⟨x, h1, h2, h3⟩ := h
  unfold finJ
  rw [List.all_eq_false]
  exact ⟨x - lenE (T.L.es.take j), List.mem_range.2 (by omega), by rw [show lenE (T.L.es.take j) + (x - lenE (T.L.es.take j)) = x by omega, decide_eq_false h3]; simp⟩
/-- the objects that come out, the names of the others -/
def outL (kt : Nat → Int) (T : TT) (bl : Nat → ByteArray) (n : Nat) : List Ob := ((List.range n).filter (fun j => finJ kt T bl j)).map (unO kt T bl)
def losL (kt : Nat → Int) (T : TT) (bl : Nat → ByteArray) (n : Nat) : List ByteArray := ((List.range n).filter (fun j => !finJ kt T bl j)).map (nmE T.L.es)
theorem outL_yes {kt : Nat → Int} {T : TT} {bl : Nat → ByteArray} {n : Nat} (h : finJ kt T bl n = true) : outL kt T bl (n + 1) = outL kt T bl n ++ [unO kt T bl n] ∧ losL kt T bl (n + 1) = losL kt T bl n := by
  unfold outL losL
  rw [List.range_succ, List.filter_append, List.filter_append]
  simp [h]
theorem outL_no {kt : Nat → Int} {T : TT} {bl : Nat → ByteArray} {n : Nat} (h : finJ kt T bl n = false) : outL kt T bl (n + 1) = outL kt T bl n ∧ losL kt T bl (n + 1) = losL kt T bl n ++ [nmE T.L.es n] := by
  unfold outL losL
  rw [List.range_succ, List.filter_append, List.filter_append]
  simp [h]
theorem objs_more (F : Nat → Ob) (n : Nat) (x : Ob) : objs (updF F n x) (n + 1) = objs F n ++ [x] := by
  unfold objs
  rw [List.range_succ, List.map_append]
  congr 1
  · apply List.map_congr_left
    intro i hi
    show (if i = n then x else F i) = F i
    rw [if_neg (by have := List.mem_range.1 hi; omega)]
  · simp [updF]
theorem VS.grow9 {kt : Nat → Int} {B k g p q f : Nat} {T : TT} {un : Value} {ul : List Nat} {rd : Nat → Bool} {bl : Nat → ByteArray} {dn : Nat → Bool} {zs : Nat → Nat} {bd : Nat → Value} {w w2 : World} {B0 n : Nat} {v : Value} {xs : List Value} (h : VS kt B k g p q f T un ul rd bl dn zs bd w) (hv : w.ownsRow B0 9 1 v n xs) (hq : q < B0) (hG : w.grownBy w2 v.ownBlock) : VS kt B k g p q f T un ul rd bl dn zs bd w2 where
  row := by rw [hG.block k (Array.getElem?_eq_some_iff.1 h.row).1 (fun e => by obtain ⟨cur, hcur⟩ := own_type hv k e.symm; exact row_ne h.row hcur (by decide) rfl)]; exact h.row
  hd := h.hd.kept (fun j cs t ht hj => by
    rw [hG.block j (Array.getElem?_eq_some_iff.1 hj).1 (fun e => by
      obtain ⟨cur, hcur⟩ := own_type hv j e.symm
      exact row_ne hj hcur (by rcases ht with e | e <;> simp [e]) rfl)]
    exact hj)
  unO := own_kept h.unO (fun j hj => by
    obtain ⟨cur, hcur⟩ := own_type h.unO j hj
    exact hG.block j (Array.getElem?_eq_some_iff.1 hcur).1 (fun e => by
      obtain ⟨cur', hcur'⟩ := own_type hv j e.symm
      exact row_ne hcur hcur' (by decide) rfl))
  rdR := (hG.block p h.rdR.lt (fun e => by obtain ⟨cur, hcur⟩ := own_type hv p e.symm; exact row_ne h.rdR hcur (by decide) rfl)).trans h.rdR
  blR := (hG.block q h.blR.lt (fun e => by have := own_ge hv q e.symm; omega)).trans h.blR
  fiR := (hG.block f h.fiR.lt (fun e => by obtain ⟨cur, hcur⟩ := own_type hv f e.symm; exact row_ne h.fiR hcur (by decide) rfl)).trans h.fiR
  fn := fun s hs hd => by
    obtain ⟨h1, h2⟩ := h.fn s hs hd
    refine ⟨?_, own_kept h2 (fun j hj => ?_)⟩
    · rw [hG.block _ (Array.getElem?_eq_some_iff.1 h1).1 (fun e => by obtain ⟨cur, hcur⟩ := own_type hv _ e.symm; exact row_ne h1 hcur (by decide) rfl)]; exact h1
    · obtain ⟨cur, hcur⟩ := own_type h2 j hj
      exact hG.block j (Array.getElem?_eq_some_iff.1 hcur).1 (fun e => by
        obtain ⟨cur', hcur'⟩ := own_type hv j e.symm
        exact row_ne hcur hcur' (by decide) rfl)
end Go.Proofs.YtadinjaocnlglaaGreatDoor
namespace Go.Proofs.YtadinjaocnlglaaGreatDoor
open Go.RowKit
set_option maxRecDepth 100000
set_option maxHeartbeats 4000000
def ADid (kt : Nat → Int) (B k g p q f : Nat) (T : TT) (un : Value) (ul : List Nat) (rd : Nat → Bool) (bl : Nat → ByteArray) (w : World) (v l : Value) (F : Nat → Ob) (n : Nat) (H : Nat → ByteArray) (m : Nat) (w' : World) : Prop :=
  (∃ (dn' : Nat → Bool) (zs' : Nat → Nat) (bd' : Nat → Value), VS kt B k g p q f T un ul rd bl dn' zs' bd' w') ∧ Fr (fun j => j = q ∨ j = f) w w' ∧ OwnF w' w.heap.size v n F ∧ objs F n = outL kt T bl T.L.es.length ∧ w'.ownsRow w.heap.size 9 1 l m (tV H m) ∧ texL H m = losL kt T bl T.L.es.length
theorem part_any (kt : Nat → Int) (B k g p q f : Nat) (T : TT) (un : Value) (ul : List Nat) (rd : Nat → Bool) (bl : Nat → ByteArray) (dn : Nat → Bool) (zs : Nat → Nat) (bd : Nat → Value) (w : World) (h : VS kt B k g p q f T un ul rd bl dn zs bd w) (hT : Told1 T) (hle : T.L.es.length ≤ 16 ∧ lenE T.L.es ≤ 4096) (hG : Gd kt w) (hB : B ≤ w.heap.size) :
    Calls Tryz.prog 121 #[.pointer (some ⟨k, 0, none⟩)] w fun e w' => ∃ v l F n H m, e = .returned (.tuple #[v, l]) ∧ ADid kt B k g p q f T un ul rd bl w v l F n H m w' := by
  have H : Hid _ := h
  obtain ⟨aE, kE, num, first, vB, hg, hoE⟩ := h.hd
  have c0 : w.cell? ⟨k, 0, none⟩ = some (.pointer (some ⟨g, 0, none⟩)) := cell_of_row _ _ _ _ 224 _ h.row
  obtain ⟨ne, hne⟩ : ∃ x, T.L.es.length = x := ⟨_, rfl⟩
  have c6 : w.cell? ⟨g, 6, none⟩ = some (.slice aE ne kE) := by rw [← hne]; exact cell_of_row _ _ _ _ 319 _ hg
  have HEC : Hid (∀ (X : World), Fr (fun j => j = q ∨ j = f) w X → ∀ j, j < ne → ∃ b, aE = some ⟨b, 0, none⟩ ∧ b < X.heap.size ∧ X.cell? ⟨b, j * 2, none⟩ = some (.string (nmE T.L.es j)) ∧ X.cell? ⟨b, j * 2 + 1, none⟩ = some (.int .i64 (lnE T.L.es j))) := fun X hX j hj => by
    have ho : X.ownsRow B 70 2 (.slice aE T.L.es.length kE) T.L.es.length (enV T.L.es) := own_kept' hoE (fun y cs _ hy => by
      rw [hX.old y (Array.getElem?_eq_some_iff.1 hy).1 (fun e => by
        rcases e with e | e
        · exact row_ne hy h.blR (by decide) e
        · exact row_ne hy h.fiR (by decide) e)]
      exact hy)
    exact ent_cellsE rfl ho j (by omega)
  have hne16 : ne ≤ 16 := by rw [← hne]; exact hle.1
  have HLE : Hid _ := hle
  have HNE : Hid _ := hne
  have HLEN : Hid (∀ j, j < ne → lenE (T.L.es.take (j + 1)) = lenE (T.L.es.take j) + lnE T.L.es j ∧ lenE (T.L.es.take (j + 1)) ≤ lenE T.L.es) := fun j hj => ⟨take_len _ _ (by omega), lenE_take_le _ _⟩
  have hqw : q < w.heap.size := h.blR.lt
  clear h hg hoE hne
  go_enter Tryz.func121, Tryz.ntmps121
  go_wp2_with fail
  clear c0 c6
  go_loopw [18, 4, 2, 3] (fun iv fv ov lv wr => ∃ (i : Nat) (dn' : Nat → Bool) (zs' : Nat → Nat) (bd' : Nat → Value) (vo vl : Value) (F : Nat → Ob) (n : Nat) (H : Nat → ByteArray) (m : Nat), i ≤ ne ∧ iv = .int .i64 i ∧ fv = .int .i64 (lenE (T.L.es.take i)) ∧ vo = ov ∧ vl = lv ∧ n ≤ i ∧ m ≤ i ∧ VS kt B k g p q f T un ul rd bl dn' zs' bd' wr ∧ Fr (fun j => j = q ∨ j = f) w wr ∧ OwnF wr w.heap.size vo n F ∧ objs F n = outL kt T bl i ∧ wr.ownsRow w.heap.size 9 1 vl m (tV H m) ∧ texL H m = losL kt T bl i) (fun iv _ _ _ _ => ne - (intOf iv).toNat)
  case atStart => exact ⟨0, dn, zs, bd, _, _, fun _ => (⟨#[]⟩, ⟨#[]⟩), 0, fun _ => ⟨#[]⟩, 0, by omega, rfl, by simp [lenE], rfl, rfl, by omega, by omega, H.out, Fr.refl _ _, ⟨by simp [objF], .inl ⟨rfl, rfl⟩⟩, rfl, ⟨rfl, .inl ⟨rfl, rfl⟩⟩, rfl⟩
  case round =>
    obtain ⟨i, dn1, zs1, bd1, vo, vl, F, n, HH, m, hi, rfl, rfl, rfl, rfl, hn, hm, hV, hF, hO, hOL, hL, hLL⟩ := hrel
    have HOL : Hid _ := hOL
    have HLL : Hid _ := hLL
    have HLO : Hid (wr.ownsRow w.heap.size 9 1 vl m (tV HH m)) := hL
    clear hOL hLL
    have HV : Hid _ := hV
    have HF : Hid _ := hF
    have HO : Hid (OwnF wr w.heap.size vo n F) := hO
    by_cases hlt : i < ne
    · have hin : (i : Int) < (ne : Int) := by omega
      obtain ⟨be, hbe, hbl, y0, y1⟩ := HEC.out wr hF i hlt
      subst hbe
      obtain ⟨hl1, hl2⟩ := HLEN.out i hlt
      have hl3 := HLE.out.2
      obtain ⟨fi, hfi⟩ : ∃ x, lenE (T.L.es.take i) = x := ⟨_, rfl⟩
      obtain ⟨ln, hln⟩ : ∃ x, lnE T.L.es i = x := ⟨_, rfl⟩
      obtain ⟨nm, hnm⟩ : ∃ x, nmE T.L.es i = x := ⟨_, rfl⟩
      rw [hl1] at hl2
      rw [hfi, hln] at hl2
      rw [hln] at y1
      rw [hnm] at y0
      rw [hfi]
      obtain ⟨W, hW⟩ : ∃ W, wr.alloc (.cells #[.string nm, .int .i64 ln] 70) = W := ⟨_, rfl⟩
      have hbW : Below wr.heap.size wr W := by rw [← hW]; exact (Below.refl _ _).alloc (Nat.le_refl _) _
      obtain ⟨eb, heb⟩ : ∃ x, wr.heap.size = x := ⟨_, rfl⟩
      have hWe : W.heap[eb]? = some (.cells #[.string nm, .int .i64 ln] 70 (0, 0)) := by rw [← hW, ← heb]; exact heap_alloc_new _ _
      have HWE : Hid _ := hWe
      have hVW := hV.below hbW
      have hFW := hF.thenBelow hbW
      have HDA : Hid _ := data_any kt B k g p q f fi (fi + ln) T un ul rd bl dn1 zs1 bd1 W hVW hT HLE.out (H.out.gd hG hFW) (Nat.le_trans hB hFW.size) (by omega) (by omega)
      have HVW : Hid _ := hVW
      have HFW : Hid _ := hFW
      have HOW : Hid (OwnF W w.heap.size vo n F) := own_below hO hbW
      have HLW : Hid (W.ownsRow w.heap.size 9 1 vl m (tV HH m)) := own_below hL hbW
      have hsum : (fi : Int) + (ln : Int) = ((fi + ln : Nat) : Int) := by simp
      obtain ⟨en, hen⟩ : ∃ x, fi + ln = x := ⟨_, rfl⟩
      rw [hen] at HDA hsum hl2
      have HFI : Hid _ := hfi
      have HLN : Hid _ := hln
      have HNM : Hid _ := hnm
      have HEN : Hid _ := hen
      have HL1 : Hid _ := hl1
      have hi6 : en ≤ 4096 := by omega
      have HHW : Hid _ := hW
      have HEB : Hid _ := heb
      clear hV hF hO hL hfi hln hnm hbW hWe hVW hFW hen hl1 hW heb
      go_wp2_with fail
      rw [HHW.out, HEB.out]
      refine Calls.mono HDA.out ?_
      rintro e w1 ⟨⟨dn2, zs2, bd2, hV2⟩, hF2, hcs⟩
      have HV2 : Hid _ := hV2
      have HFF : Hid _ := HFW.out.trans' hF2
      have hold : ∀ (j : Nat) (cs : Array Value) (t : TypeId), t = 70 ∨ t = 72 → W.heap[j]? = some (.cells cs t (0, 0)) → w1.heap[j]? = some (.cells cs t (0, 0)) := fun j cs t ht hj => by
        rw [hF2.old j (Array.getElem?_eq_some_iff.1 hj).1 (fun e => by
          rcases e with e | e
          · exact row_ne hj HVW.out.blR (by rcases ht with e | e <;> simp [e]) e
          · exact row_ne hj HVW.out.fiR (by rcases ht with e | e <;> simp [e]) e)]
        exact hj
      have hE1 := hold _ _ _ (.inl rfl) HWE.out
      have hO1 : OwnF w1 w.heap.size vo n F := own_kept' HOW.out (fun j cs _ hj => hold j cs 72 (.inr rfl) hj)
      have hL1 : w1.ownsRow w.heap.size 9 1 vl m (tV HH m) := own_kept HLW.out (fun y hy => hF2.old y (own_lt HLW.out y hy) (fun e => by
        have h0 := own_ge HLW.out y hy
        rcases e with e | e
        · omega
        · obtain ⟨cur, hcur⟩ := own_type HLW.out y hy
          exact row_ne hcur HVW.out.fiR (by decide) e))
      have z0 : w1.cell? ⟨eb, 0, none⟩ = some (.string nm) := cell_of_row _ _ _ _ 70 _ hE1
      rcases hcs with ⟨hfine, rfl⟩ | ⟨hbad, rfl⟩
      · have hok : finJ kt T bl i = true := finJ_yes (fun x h1 h2 => hfine x (by rw [HFI.out] at h1; exact h1) (by rw [HFI.out, HLN.out, HEN.out] at h2; exact h2))
        obtain ⟨o1, o2⟩ := outL_yes hok
        obtain ⟨D, hD⟩ : ∃ D : ByteArray, (⟨(strS kt T bl fi en).toArray⟩ : ByteArray) = D := ⟨_, rfl⟩
        obtain ⟨v', w2, hr, ho, hgr⟩ := own_obj hO1 HFF.out.size (by omega) nm D
        have HRUN : Hid _ := hr
        have hbA : Below w1.heap.size w1 (w1.alloc (.cells #[.string nm, .string D] 72)) := (Below.refl _ _).alloc (Nat.le_refl _) _
        have HV3 : Hid _ := (hV2.below hbA).grow (own_below hO1 hbA) hgr
        have HF3 : Hid (Fr (fun j => j = q ∨ j = f) w w2) := (HFF.out.alloc _).grown hgr (fun y hy => .inr (own_ge hO1 y hy))
        have HL3 : Hid (w2.ownsRow w.heap.size 9 1 vl m (tV HH m)) := own_kept (own_below hL1 hbA) (fun y hy => hgr.block y (own_lt (own_below hL1 hbA) y hy) (fun e => by
          obtain ⟨c1, k1⟩ := own_type (own_below hL1 hbA) y hy
          obtain ⟨c2, k2⟩ := own_type (own_below hO1 hbA) y e.symm
          exact row_ne k1 k2 (by decide) rfl))
        have HO3 : Hid _ := ho
        have HOE : Hid (objs (updF F n (nm, D)) (n + 1) = outL kt T bl (i + 1)) := by
          show _ = _
          rw [objs_more, HOL.out, o1]
          congr 2
          show (nm, D) = unO kt T bl i
          unfold unO
          rw [HNM.out, HFI.out, HLN.out, HEN.out, hD]
        have HLE2 : Hid (texL HH m = losL kt T bl (i + 1)) := by show _ = _; rw [o2]; exact HLL.out
        obtain ⟨av, cv, hvs⟩ := own_shape hO1
        obtain ⟨av', cv', hvs'⟩ := own_shape ho
        obtain ⟨al, cl, hvl⟩ := own_shape hL1
        subst hvs hvs' hvl
        rw [hD]
        clear hV2 hF2 hold hE1 hO1 hL1 hr ho hgr hbA hD hfine hok o1 o2
        go_wp2_with (at_builtin; refine wpList_app rfl (.tmp 34) (.tmp 39) 38 rfl _ _ _ (by simp [Act.eval]) (by simp [Act.eval]) _ HRUN.out ?_)
        refine ⟨⟨i + 1, _, _, _, .slice av' (n + 1) cv', .slice al m cl, _, n + 1, HH, m, by omega, by go_num, ?_, rfl, rfl, by omega, by omega, HV3.out, HF3.out, HO3.out, HOE.out, HL3.out, HLE2.out⟩, by simp [intOf]; omega⟩
        rw [HL1.out, HFI.out, HLN.out, HEN.out]
      · have hok : finJ kt T bl i = false := finJ_no (by rw [HFI.out, HLN.out, HEN.out]; exact hbad)
        obtain ⟨o1, o2⟩ := outL_no hok
        obtain ⟨v', w2, hr, ho, hgr, _⟩ := own_more hL1 HFF.out.size (by omega) nm
        have HRUN : Hid _ := hr
        have hbA : Below w1.heap.size w1 (w1.alloc (.cells #[.string nm] 9)) := (Below.refl _ _).alloc (Nat.le_refl _) _
        have HV3 : Hid _ := (hV2.below hbA).grow9 (own_below hL1 hbA) hqw hgr
        have HF3 : Hid (Fr (fun j => j = q ∨ j = f) w w2) := (HFF.out.alloc _).grown hgr (fun y hy => .inr (own_ge hL1 y hy))
        have HO3 : Hid (OwnF w2 w.heap.size vo n F) := own_kept (own_below hO1 hbA) (fun y hy => hgr.block y (own_lt (own_below hO1 hbA) y hy) (fun e => by
          obtain ⟨c1, k1⟩ := own_type (own_below hO1 hbA) y hy
          obtain ⟨c2, k2⟩ := own_type (own_below hL1 hbA) y e.symm
          exact row_ne k1 k2 (by decide) rfl))
        have HL3 : Hid _ := ho
        have HOE : Hid (objs F n = outL kt T bl (i + 1)) := by show _ = _; rw [o1]; exact HOL.out
        have HLE2 : Hid (texL (fun j => if j = m then nm else HH j) (m + 1) = losL kt T bl (i + 1)) := by
          show _ = _
          rw [texL_more, HLL.out, o2, HNM.out]
        obtain ⟨av, cv, hvs⟩ := own_shape hO1
        obtain ⟨al, cl, hvl⟩ := own_shape hL1
        obtain ⟨al', cl', hvl'⟩ := own_shape ho
        subst hvs hvl hvl'
        clear hV2 hF2 hold hE1 hO1 hL1 hr ho hgr hbA hbad hok o1 o2
        go_wp2_with (at_builtin; refine wpList_app rfl (.tmp 41) (.tmp 44) 42 rfl _ _ _ (by simp [Act.eval]) (by simp [Act.eval]) _ HRUN.out ?_)
        refine ⟨⟨i + 1, _, _, _, .slice av n cv, .slice al' (m + 1) cl', F, n, _, m + 1, by omega, by go_num, ?_, rfl, rfl, by omega, by omega, HV3.out, HF3.out, HO3.out, HOE.out, HL3.out, HLE2.out⟩, by simp [intOf]; omega⟩
        rw [HL1.out, HFI.out, HLN.out, HEN.out]
    · have ei : i = ne := by omega
      subst ei
      clear hV hF hO hL
      go_wp2_with fail
      go_ret2
      exact ⟨vo, vl, F, n, HH, m, rfl, ⟨_, _, _, HV.out⟩, HF.out, HO.out, by rw [HNE.out]; exact HOL.out, HLO.out, by rw [HNE.out]; exact HLL.out⟩
end Go.Proofs.YtadinjaocnlglaaGreatDoor
namespace Go.Proofs.YtadinjaocnlglaaGreatDoor
open Go.RowKit Go.MuLone
set_option maxRecDepth 100000
set_option maxHeartbeats 4000000
/-- the error of lost names -/
def LErr (er : Value) (l : Value) (m : Nat) (w : World) : Prop := (m = 0 ∧ er = .nilIface) ∨ (0 < m ∧ ∃ eg mg : Nat, er = .iface 305 (.pointer (some ⟨eg, 0, none⟩)) ∧ w.heap[eg]? = some (.cells #[.int .i64 14, .int .i64 m, .iface 287 (.pointer (some ⟨mg, 0, none⟩))] 307 (0, 0)) ∧ w.heap[mg]? = some (.cells #[l] 289 (0, 0)))
theorem flost (m : Nat) (a : Option Addr) (c : Nat) (w : World) : Calls Tryz.prog 122 #[.int .i64 m, .slice a m c] w fun e w' => ∃ eg mg : Nat, e = .returned (.iface 305 (.pointer (some ⟨eg, 0, none⟩))) ∧ w'.heap[eg]? = some (.cells #[.int .i64 14, .int .i64 m, .iface 287 (.pointer (some ⟨mg, 0, none⟩))] 307 (0, 0)) ∧ w'.heap[mg]? = some (.cells #[.slice a m c] 289 (0, 0)) ∧ Below w.heap.size w w' := by
  have HO : Hid (∀ (b : Addr) (W : World), Calls Tryz.prog 178 #[.int .i64 14, .int .i64 m, .iface 287 (.pointer (some b))] W fun e w' => ∃ g : Nat, e = .returned (.iface 305 (.pointer (some ⟨g, 0, none⟩))) ∧ w'.heap[g]? = some (.cells #[.int .i64 14, .int .i64 m, .iface 287 (.pointer (some b))] 307 (0, 0)) ∧ Below W.heap.size W w') := fun b W => by
    go_enter Tryz.func178, Tryz.ntmps178
    go_wp2
    go_ret
    exact ⟨_, rfl, heap_alloc_new _ _, (Below.refl _ _).alloc (Nat.le_refl _) _⟩
  go_enter Tryz.func122, Tryz.ntmps122
  go_wp2_with fail
  refine Calls.mono (HO.out _ _) ?_
  rintro e w1 ⟨g, rfl, h1, h2⟩
  have H1 : Hid _ := h1
  have H2 : Hid _ := h2
  clear h1 h2
  go_wp2_with fail
  go_ret
  have hb : Below w.heap.size w (w.alloc (.cells #[.slice a m c] 289)) := (Below.refl _ _).alloc (Nat.le_refl _) _
  exact ⟨_, _, rfl, H1.out, by rw [H2.out.block w.heap.size (by simp)]; exact heap_alloc_new _ _, hb.trans (H2.out.mono hb.size)⟩
def UDid (kt : Nat → Int) (B k g p q f : Nat) (T : TT) (un : Value) (ul : List Nat) (rd : Nat → Bool) (bl : Nat → ByteArray) (w : World) (e : Ending) (w' : World) : Prop :=
  ∃ v er l F n H m, e = .returned (.tuple #[v, er]) ∧ ADid kt B k g p q f T un ul rd bl w v l F n H m w' ∧ LErr er l m w'
theorem unpack_any (kt : Nat → Int) (B k g p q f : Nat) (T : TT) (un : Value) (ul : List Nat) (rd : Nat → Bool) (bl : Nat → ByteArray) (dn : Nat → Bool) (zs : Nat → Nat) (bd : Nat → Value) (w : World) (h : VS kt B k g p q f T un ul rd bl dn zs bd w) (hT : Told1 T) (hle : T.L.es.length ≤ 16 ∧ lenE T.L.es ≤ 4096) (hG : Gd kt w) (hB : B ≤ w.heap.size) :
    Calls Tryz.prog 73 #[.pointer (some ⟨k, 0, none⟩)] w (UDid kt B k g p q f T un ul rd bl w) := by
  have HP : Hid _ := part_any kt B k g p q f T un ul rd bl dn zs bd w h hT hle hG hB
  clear h hT hle hG
  go_enter Tryz.func73, Tryz.ntmps73
  go_wp2_with fail
  refine Calls.mono HP.out ?_
  rintro e w1 ⟨v, l, F, n, H, m, rfl, hP⟩
  have HD : Hid (ADid kt B k g p q f T un ul rd bl w v l F n H m w1) := hP
  clear hP
  obtain ⟨a, c, hl⟩ := own_shape HD.out.2.2.2.2.1
  subst hl
  obtain ⟨ao, co, hv⟩ := own_shape HD.out.2.2.1
  subst hv
  by_cases hm : 0 < m
  · have hm' : (0 : Int) < (m : Int) := by omega
    go_wp2_with fail
    refine Calls.mono (flost m a c w1) ?_
    rintro e w2 ⟨eg, mg, rfl, h1, h2, h3⟩
    have H1 : Hid _ := h1
    have H2 : Hid _ := h2
    have H3 : Hid _ := h3
    clear h1 h2 h3
    go_wp2_with fail
    go_ret2
    obtain ⟨⟨dn', zs', bd', q1⟩, q2, q3, q4, q5, q6⟩ := HD.out
    exact ⟨_, _, _, F, n, H, m, rfl, ⟨⟨dn', zs', bd', q1.below H3.out⟩, q2.thenBelow H3.out, own_below q3 H3.out, q4, own_below q5 H3.out, q6⟩, .inr ⟨hm, eg, mg, rfl, H1.out, H2.out⟩⟩
  · have hm' : ¬ (0 : Int) < (m : Int) := by omega
    go_wp2_with fail
    go_ret2
    exact ⟨_, _, _, F, n, H, m, rfl, HD.out, .inl ⟨by omega, rfl⟩⟩
end Go.Proofs.YtadinjaocnlglaaGreatDoor
namespace Go.Proofs.YtadinjaocnlglaaGreatDoor
open Go.RowKit Go.MuLone
set_option maxRecDepth 100000
set_option maxHeartbeats 4000000
/-- what Unpack has answered -/
def VUn (kt : Nat → Int) (B v k g p q f : Nat) (T : TT) (un : Value) (ul : List Nat) (rd : Nat → Bool) (bl : Nat → ByteArray) (w : World) (vo er : Value) (w' : World) : Prop :=
  ∃ l F n H m, VK kt B v k g p q f T un ul rd bl w' ∧ Fr (fun j => j = q ∨ j = f ∨ j = v) w w' ∧ OwnF w' w.heap.size vo n F ∧ objs F n = outL kt T bl T.L.es.length ∧ w'.ownsRow w.heap.size 9 1 l m (tV H m) ∧ texL H m = losL kt T bl T.L.es.length ∧ LErr er l m w'
theorem vunpack_any (kt : Nat → Int) (B v k g p q f : Nat) (T : TT) (un : Value) (ul : List Nat) (rd : Nat → Bool) (bl : Nat → ByteArray) (w : World) (h : VK kt B v k g p q f T un ul rd bl w) (hT : Told1 T) (hle : T.L.es.length ≤ 16 ∧ lenE T.L.es ≤ 4096) (hG : Gd kt w) (hB : B ≤ w.heap.size) (h2 : v ≠ 2) :
    Calls Tryz.prog 27 #[.pointer (some ⟨v, 0, none⟩)] w fun e w' => ∃ vo er, e = .returned (.tuple #[vo, er]) ∧ VUn kt B v k g p q f T un ul rd bl w vo er w' := by
  obtain ⟨hv, dn, zs, bd, h⟩ := h
  have hF0 : Fr (fun j => j = v) w (w.setCell ⟨v, 0, none⟩ (.int .i32 1)) := (Fr.refl (fun j => j = v) w).set (.inl rfl) _ _
  refine Calls.mono (lk_unpack v k w (fun val w' => ∃ vo er, val = .tuple #[vo, er] ∧ VUn kt B v k g p q f T un ul rd bl w vo er w') hv ?_) ?_
  · refine Calls.mono (unpack_any kt B k g p q f T un ul rd bl dn zs bd _ (h.set hv (.inr rfl) _ _) hT hle (hG.fr hF0 (fun e => h2 e.symm)) (Nat.le_trans hB hF0.size)) ?_
    rintro e w' ⟨vo, er, l, F, n, H, m, rfl, ⟨⟨dn', zs', bd', hS⟩, hF, hO, hOe, hL, hLe⟩, hE⟩
    have hv1 : VL v k 1 w' := by
      have h1 := VL.one hv
      have hS1 := h.set hv (.inr rfl) 0 (.int .i32 1)
      unfold VL at h1 ⊢
      rw [hF.old v (Array.getElem?_eq_some_iff.1 h1).1 (fun e => by
        rcases e with e | e
        · exact row_ne h1 hS1.blR (by decide) e
        · exact row_ne h1 hS1.fiR (by decide) e)]
      exact h1
    have e1 : (w.setCell ⟨v, 0, none⟩ (.int .i32 1)).heap.size = w.heap.size := by simp [World.setCell]
    rw [e1] at hO hL
    refine ⟨_, _, rfl, hv1, vo, er, rfl, l, F, n, H, m, ⟨hv1.zero, dn', zs', bd', hS.set hv1 (.inr rfl) _ _⟩, ?_, own_setB hO hv1 (by decide) _, hOe, own_setB hL hv1 (by decide) _, hLe, ?_⟩
    · exact ((hF0.mono (T := fun j => j = q ∨ j = f ∨ j = v) (fun j _ e => .inr (.inr e))).trans' (hF.mono (fun j _ e => by rcases e with e | e; exact .inl e; exact .inr (.inl e)))).set (.inl (.inr (.inr rfl))) _ _
    · rcases hE with h0 | ⟨h0, eg, mg, h1, h3, h4⟩
      · exact .inl h0
      · exact .inr ⟨h0, eg, mg, h1, (set_other _ _ _ _ _ (row_ne h3 hv1 (by decide))).trans h3, (set_other _ _ _ _ _ (row_ne h4 hv1 (by decide))).trans h4⟩
  · rintro e w' ⟨a, b, rfl, vo, er, hval, h1⟩
    exact ⟨vo, er, by rw [hval], h1⟩
end Go.Proofs.YtadinjaocnlglaaGreatDoor
