/-
  The walk of vaultkeep.Clean.
  The walk of vaultkeep's mixed.
  What a Draft refuses: checkState, overFirst, breakOff.
  A Writer as the document tells it: what was begun and written, the first error that broke it, whether Close has answered; and its answers.
  What a Draft has, told by the document's Writer; Begin, whatever it answers.
  Begin and Write of a Draft, whatever they answer.
  Write of a Draft, whatever it answers.
  Write of a Draft, told by the document's Writer.
  Close of a Draft, whatever it answers: the walks.
  The walk of vaultref's leaves.
  Close of a Draft, and the methods of vault's Writer, whatever they answer.
  The document's Writer: what it has; state, breaks, total.
  The document's Writer: its rows, read; what a call leaves of it.
  The walk of looks.
  A desk: its book, and Writers beside one another, each with what is its own.
  Write of the document's Writer, where it is refused.
  Write of the document's Writer, where the bytes are put behind the others.
  The walk of vaultref's volume.
  The document's Blocks and List.
-/
import Derived.Test.YtadinjaocnlglaaGreatDoorZ37
import Derived.Test.YtadinjaocnlglaaGreatDoorZ38
import Derived.Test.YtadinjaocnlglaaGreatDoorZ24
import Derived.Test.YtadinjaocnlglaaGreatDoorZ06
import Derived.WalkKit
import Derived.Test.YtadinjaocnlglaaGreatDoorZ20
import Derived.Test.YtadinjaocnlglaaGreatDoorZ26
import Derived.Test.YtadinjaocnlglaaGreatDoorZ18
import Derived.Test.YtadinjaocnlglaaGreatDoorZ09
import Derived.Test.YtadinjaocnlglaaGreatDoorZ16
namespace Go.Proofs.YtadinjaocnlglaaGreatDoor
open Go.RowKit
set_option maxRecDepth 100000
set_option maxHeartbeats 4000000
theorem low3 {w w2 w3 : World} {q f v : Nat} (h : Below w.heap.size w w2) (hF : Fr (fun j => j = q ∨ j = f ∨ j = v) w2 w3) (hq : w.heap.size ≤ q) (hf : w.heap.size ≤ f) (hv : w.heap.size ≤ v) : Below w.heap.size w w3 :=
  h.trans (hF.lowB w.heap.size h.size (fun j hj e => by rcases e with e | e | e <;> omega))
/-- while texts are looked for -/
def Lft (B g cap r : Nat) (G : Nat → ByteArray) (w : World) : Prop := w.ownsRow B 9 1 (.slice (some ⟨g, 0, none⟩) r cap) r (tV G r)
end Go.Proofs.YtadinjaocnlglaaGreatDoor
namespace Go.Proofs.YtadinjaocnlglaaGreatDoor
open Go.RowKit
set_option maxRecDepth 100000
set_option maxHeartbeats 4000000
theorem eraseT_perm : ∀ (l : List ByteArray) (p : Nat) (h : p < l.length), l.Perm (l[p] :: l.eraseIdx p)
  | [], _, h => by simp at h
  | x :: r, 0, _ => List.Perm.refl _
  | x :: r, p + 1, h => ((eraseT_perm r p (by simpa using h)).cons x).trans (List.Perm.swap _ _ _)
theorem delT_perm (G : Nat → ByteArray) (r p : Nat) (hp : p < r) : (texL G r).Perm (G p :: texL (delT G p) (r - 1)) := by
  have hl : p < (texL G r).length := by rw [texL_len]; exact hp
  have h1 := eraseT_perm _ p hl
  have e1 : (texL G r)[p] = G p := by simp [texL]
  have e2 : (texL G r).eraseIdx p = texL (delT G p) (r - 1) := by
    apply List.ext_getElem?
    intro i
    rw [List.getElem?_eraseIdx]
    unfold texL delT
    simp only [List.getElem?_map]
    by_cases hi : i < r - 1
    · rw [List.getElem?_range hi]
      by_cases e : i < p
      · rw [if_pos e, List.getElem?_range (by omega)]
        simp [e]
      · rw [if_neg e, List.getElem?_range (by omega)]
        simp [e]
    · rw [List.getElem?_eq_none (l := List.range (r - 1)) (by simp; omega)]
      split
      · omega
      · rw [List.getElem?_eq_none (by simp; omega)]
        rfl
  rw [e1, e2] at h1
  exact h1
theorem own_text (w : World) (x : ByteArray) : (w.alloc (.cells #[.string x] 9)).ownsRow w.heap.size 9 1 (.slice (some ⟨w.heap.size, 0, none⟩) 1 1) 1 [.string x] :=
  ⟨rfl, .inr ⟨w.heap.size, 1, #[.string x], rfl, Nat.le_refl _, heap_alloc_new _ _, Nat.le_refl _, by unfold maxLen; omega, rfl, rfl⟩⟩
theorem own_more {w : World} {B n : Nat} {v : Value} {H : Nat → ByteArray} (h : w.ownsRow B 9 1 v n (tV H n)) (hB : B ≤ w.heap.size) (hn : n ≤ 1000000) (x : ByteArray) : ∃ v' w', (Builtin.append_ #[42, 42] 42 #[v, .slice (some ⟨w.heap.size, 0, none⟩) 1 1]).run Tryz.prog (w.alloc (.cells #[.string x] 9)) = .ok v' w' ∧ w'.ownsRow B 9 1 v' (n + 1) (tV (fun i => if i = n then x else H i) (n + 1)) ∧ (w.alloc (.cells #[.string x] 9)).grownBy w' v.ownBlock ∧ (v'.ownBlock = v.ownBlock ∨ v'.ownBlock = some (w.heap.size + 1)) := by
  obtain ⟨i0, hi0, z0, z1, z2⟩ := info_parts info9p
  obtain ⟨v', w', hr, ho, hg, hb⟩ := app_rows 42 Tryz.underlying42 hi0 z0 z1 z2 rfl (by decide) (h.alloc (.cells #[.string x] 9)) (own_text w x) (by intro u hu; simp at hu; subst hu; rfl) (by omega) (by omega) (by simp; omega)
  refine ⟨v', w', hr, ?_, hg, by simpa using hb⟩
  have e : tV (fun i => if i = n then x else H i) (n + 1) = tV H n ++ [.string x] := by
    unfold tV
    rw [List.range_succ, List.map_append]
    congr 1
    · apply List.map_congr_left
      intro i hi
      show Value.string (if i = n then x else H i) = Value.string (H i)
      rw [if_neg (by have := List.mem_range.1 hi; omega)]
    · simp
  rw [e]
  exact ho
theorem texL_more (H : Nat → ByteArray) (n : Nat) (x : ByteArray) : texL (fun i => if i = n then x else H i) (n + 1) = texL H n ++ [x] := by
  rw [texL_succ]
  congr 1
  · unfold texL
    apply List.map_congr_left
    intro i hi
    show (if i = n then x else H i) = H i
    rw [if_neg (by have := List.mem_range.1 hi; omega)]
  · simp
theorem mixed_any (L : Nat → ByteArray) (a o : Option Addr) (n cap no co : Nat) (w : World) (hn : n ≤ 1000) (hn0 : 0 < n) (hR : RawT w a n cap L) (hI : Ints w o no) :
    Calls Tryz.prog 22 #[.slice a n cap, .slice o no co] w fun e w' => ∃ v H, e = .returned v ∧ w'.ownsRow w.heap.size 9 1 v n (tV H n) ∧ (texL H n).Perm (texL L n) ∧ Below w.heap.size w w' := by
  obtain ⟨lv, w5, hr5, hcase, hb5⟩ := own_copy w a n cap L hR (by omega)
  obtain ⟨gl, gc, rfl, hglB, hgl, _⟩ : ∃ gl gc, lv = .slice (some ⟨gl, 0, none⟩) n gc ∧ w.heap.size ≤ gl ∧ gl < w5.heap.size ∧ Cl w5 gl n (tI L) := by
    rcases hcase with ⟨e, _⟩ | ⟨_, ho⟩
    · omega
    · exact own_row9 ho hn0
  have HLF : Hid (Lft w.heap.size gl gc n L w5) := by
    rcases hcase with ⟨e, _⟩ | ⟨_, ho⟩
    · omega
    · exact ho
  have HRUN : Hid _ := hr5
  have HB5 : Hid _ := hb5
  have HI : Hid _ := hI
  clear hr5 hcase hb5 hR hI hgl
  go_enter Tryz.func22, Tryz.ntmps22
  go_wp2_with (at_builtin; refine wpList_app rfl (.tmp 10) (.tmp 11) 42 rfl _ _ _ (by simp [Act.eval]) (by simp [Act.eval]) _ HRUN.out ?_)
  go_loopw [7, 5, 6] (fun iv lv ov wr => ∃ (i r : Nat) (G H : Nat → ByteArray) (vo : Value), r + i = n ∧ iv = .int .i64 i ∧ lv = .slice (some ⟨gl, 0, none⟩) r gc ∧ vo = ov ∧ Lft w.heap.size gl gc r G wr ∧ wr.ownsRow w.heap.size 9 1 vo i (tV H i) ∧ vo.ownBlock ≠ some gl ∧ Below w.heap.size w wr ∧ (texL H i ++ texL G r).Perm (texL L n)) (fun iv _ _ _ => n - (intOf iv).toNat)
  case atStart => exact ⟨0, n, L, fun _ => ⟨#[]⟩, _, by omega, rfl, rfl, rfl, HLF.out, ⟨rfl, .inl ⟨rfl, rfl⟩⟩, (fun e => by cases e), HB5.out, List.Perm.refl _⟩
  case round =>
    obtain ⟨i, r, G, H, vo, hri, rfl, rfl, rfl, hLf, hO, hap, hB, hP⟩ := hrel
    have HLf : Hid (Lft w.heap.size gl gc r G wr) := hLf
    have HO : Hid (wr.ownsRow w.heap.size 9 1 vo i (tV H i)) := hO
    have HAP : Hid _ := hap
    have HB : Hid _ := hB
    have HP : Hid _ := hP
    clear hLf hO hap hB hP
    by_cases hr : 0 < r
    · have hr1 : (0 : Int) < (r : Int) := by omega
      go_upto_if 21 with fail
      go_cut [8] from 13 to 44 (fun s8 wx => ∃ c : Int, s8 = .int .i64 c ∧ -9223372036854775808 ≤ c ∧ c ≤ 9223372036854775807 ∧ wx = wr)
      case first =>
        by_cases hin : i < no
        · obtain ⟨b, off, x, rfl, hb, hx, x0, x1⟩ := HI.out i hin
          have x2 : wr.cell? ⟨b, off + i, none⟩ = some (.int .i64 x) := (HB.out.cell (p := ⟨b, off + i, none⟩) hb).trans hx
          have hin1 : (i : Int) < (no : Int) := by omega
          go_wp2
          go_meet
          case rel => exact ⟨x, rfl, x0, x1, rfl⟩
        · have hin1 : ¬ ((i : Int) < (no : Int)) := by omega
          go_wp2
          go_meet
          case rel => exact ⟨0, rfl, by omega, by omega, rfl⟩
      case rest =>
        obtain ⟨c, rfl, c0, c1, rfl⟩ := hcut
        go_wp2_with fail
        refine (pick_at c r (r : Int) wc rfl hr (by omega) c0 c1).mono ?_
        rintro e w1 ⟨rfl, rfl⟩
        have hp := pk_lt c r hr
        obtain ⟨p, hpe⟩ : ∃ p, pk c r = p := ⟨_, rfl⟩
        rw [hpe] at hp ⊢
        clear hpe
        have x0 : w1.cell? ⟨gl, p, none⟩ = some (.string (G p)) := by
          have := World.ownsRow.cells HLf.out (g := gl) rfl p _ (tV_get G r p hp)
          rw [Addr.add_lit, Nat.zero_add] at this
          exact this
        have p1 : (p : Int) < (r : Int) := by omega
        obtain ⟨v', w2, hr2, ho2, hg2, hbk⟩ := own_more HO.out HB.out.size (by omega) (G p)
        have HRUN2 : Hid _ := hr2
        have hgl1 : gl < w1.heap.size := own_lt HLf.out gl rfl
        have HL2 : Hid (w2.ownsRow w.heap.size 9 1 (.slice (some ⟨gl, 0, none⟩) r gc) r (tV G r)) := World.ownsRow.kept (World.ownsRow.alloc HLf.out _) hg2 (.inr (fun e => HAP.out e.symm))
        have HO2 : Hid (w2.ownsRow w.heap.size 9 1 v' (i + 1) (tV (fun j => if j = i then G p else H j) (i + 1))) := ho2
        have HAP2 : Hid (v'.ownBlock ≠ some gl) := by
          rcases hbk with e | e
          · rw [e]; exact HAP.out
          · rw [e]; intro e'; cases e'; omega
        have HB2 : Hid (Below w.heap.size w w2) := (HB.out.alloc HB.out.size _).grown hg2 (by simp; have := HB.out.size; omega) (fun y hy => own_ge HO.out y hy)
        have HP2 : Hid ((texL (fun j => if j = i then G p else H j) (i + 1) ++ texL (delT G p) (r - 1)).Perm (texL L n)) := by
          refine List.Perm.trans ?_ HP.out
          rw [texL_more, List.append_assoc]
          exact (List.Perm.append_left _ (delT_perm G r p hp).symm)
        obtain ⟨cur, hcur, hglb, hrc, hcm, hcs, hcg⟩ := own_curT HL2.out
        have HCUR : Hid (w2.heap[gl]? = some (.cells cur 9 (0, 0))) := hcur
        obtain ⟨A, hA, hnews⟩ : ∃ A : Addr, (if gc = p + 1 then some (⟨gl, 0, none⟩ : Addr) else some ⟨gl, p + 1, none⟩) = some A ∧ Hid (∀ j u, (movT G p r)[j]? = some u → w2.drew.cell? (A.add j) = some u) := by
          by_cases h : gc = p + 1
          · refine ⟨⟨gl, 0, none⟩, by simp [h], fun j u hu => ?_⟩
            have hl0 : (movT G p r).length = 0 := by rw [movT_len]; omega
            rw [List.length_eq_zero_iff.1 hl0] at hu
            simp at hu
          · refine ⟨⟨gl, p + 1, none⟩, by simp [h], fun j u hu => ?_⟩
            have hj : j < r - (p + 1) := by
              have := (List.getElem?_eq_some_iff.1 hu).1
              rwa [movT_len] at this
            rw [movT_get _ _ _ _ hj] at hu
            rw [Addr.add_lit]
            have hc := World.ownsRow.cells HL2.out (g := gl) rfl (p + 1 + j) _ (tV_get G r _ (by omega))
            rw [Addr.add_lit, Nat.zero_add] at hc
            rw [← hu]
            exact hc
        have s1' : Hid ((movT G p r).length = (r - (p + 1)) * 1) := by show (movT G p r).length = _; rw [movT_len]; omega
        have s3' : Hid (∀ j, j < (movT G p r).length → (w2.drew.cell? ⟨gl, 0 + p * 1 + j, none⟩).isSome = true ∧ w2.drew.frozen? ⟨gl, 0 + p * 1 + j, none⟩ = false) := by
          intro j hj
          rw [movT_len] at hj
          refine ⟨?_, frozen_of_row _ _ _ _ 9 HCUR.out⟩
          have hc := World.ownsRow.cells HL2.out (g := gl) rfl (p + j) _ (tV_get G r _ (by omega))
          rw [Addr.add_lit] at hc
          show (w2.cell? _).isSome = true
          rw [Nat.zero_add, Nat.mul_one] at *
          rw [hc]; rfl
        have hpc : p ≤ gc := by omega
        have hwr : IntKind.i64.wrap ((p : Int) + 1) = (p : Int) + 1 := by rw [IntKind.wrap_i64]; omega
        have hp0 : (0 : Int) ≤ (p : Int) + 1 := by omega
        have hp1' : (p : Int) + 1 ≤ (r : Int) := by omega
        have hp2 : ((p : Int) + 1).toNat = p + 1 := by omega
        obtain ⟨av, cv, hvs⟩ := own_shape HO.out
        obtain ⟨av', cv', hvs'⟩ := own_shape HO2.out
        subst hvs hvs'
        obtain ⟨i9, hi9, z0, z1, z2⟩ := info_parts info9p
        have HI9 : Hid _ := hi9
        clear hr2 ho2 hg2 hbk hcur hcg
        go_wp2_with (at_builtin; refine wpList_app rfl (.tmp 30) (.tmp 35) 42 rfl _ _ _ (by simp [Act.eval]) (by simp [Act.eval]) _ HRUN2.out ?_)
        go_region_law (refine step_append_room rfl (.tmp 39) (.tmp 43) 42 rfl 9 i9 1 Tryz.underlying42 HI9.out z1 gl 0 p gc (by simp [Act.eval, Act.put]) A (r - (p + 1)) (gc - (p + 1)) (movT G p r) (by simp [Act.eval, Act.put]) s1'.out hnews.out (movT_one _ _ _) (by omega) s3'.out ?_)
        obtain ⟨W3, hW3⟩ : ∃ W3, w2.drew.setCells gl p (movT G p r) = W3 := ⟨_, rfl⟩
        have hrp : p + (r - (p + 1)) = r - 1 := by omega
        have HO3 : Hid (Lft w.heap.size gl gc (r - 1) (delT G p) W3) := by
          show W3.ownsRow _ _ _ _ _ _
          rw [← hW3]; exact own_delT (w := w2.drew) HL2.out p hp
        have HQ3 : Hid (W3.ownsRow w.heap.size 9 1 (.slice av' (i + 1) cv') (i + 1) (tV (fun j => if j = i then G p else H j) (i + 1))) := own_kept HO2.out (fun y hy => by rw [← hW3, setCells_other gl y (fun e => HAP2.out (by rw [← e]; exact hy))]; rfl)
        have HB3' : Hid (Below w.heap.size w W3) := by
          have hc : Calm w2.drew W3 := by rw [← hW3]; exact setCells_calm gl _ _ _
          have hs3 : W3.heap.size = w2.heap.size := by rw [← hW3]; exact setCells_size gl _ _ _
          have hb := HB2.out
          exact ⟨hc.1.trans hb.os, hc.2.1.trans hb.tape, hc.2.2.trans hb.output, by rw [hs3]; exact hb.size, fun k hk => by rw [← hW3, setCells_other gl k (by omega)]; exact hb.block k hk⟩
        rw [hW3, hrp]
        clear hW3 hA hwr
        go_wp2_with fail
        go_roundw
        case rel => exact ⟨i + 1, r - 1, delT G p, _, _, by omega, by go_num, rfl, rfl, HO3.out, HQ3.out, HAP2.out, HB3'.out, HP2.out⟩
        case measure => simp [intOf]; omega
    · have hr0 : r = 0 := by omega
      subst hr0
      have hin : i = n := by omega
      subst hin
      go_wp2_with fail
      go_ret
      exact ⟨vo, H, rfl, HO.out, by have := HP.out; simpa [texL] using this, HB.out⟩
end Go.Proofs.YtadinjaocnlglaaGreatDoor
namespace Go.Proofs.YtadinjaocnlglaaGreatDoor
open Go.RowKit
set_option maxRecDepth 100000
set_option maxHeartbeats 1000000
end Go.Proofs.YtadinjaocnlglaaGreatDoor
namespace Go.Proofs.YtadinjaocnlglaaGreatDoor
end Go.Proofs.YtadinjaocnlglaaGreatDoor
namespace Go.Proofs.YtadinjaocnlglaaGreatDoor
open Go.RowKit Go.Maps
set_option maxRecDepth 100000
set_option maxHeartbeats 1000000
end Go.Proofs.YtadinjaocnlglaaGreatDoor
namespace Go.Proofs.YtadinjaocnlglaaGreatDoor
open Go.RowKit Go.Maps
set_option maxRecDepth 100000
set_option maxHeartbeats 1000000
end Go.Proofs.YtadinjaocnlglaaGreatDoor
namespace Go.Proofs.YtadinjaocnlglaaGreatDoor
open Go.RowKit Go.Maps
set_option maxRecDepth 100000
set_option maxHeartbeats 1000000
end Go.Proofs.YtadinjaocnlglaaGreatDoor
namespace Go.Proofs.YtadinjaocnlglaaGreatDoor
open Go.RowKit Go.Maps
set_option maxRecDepth 100000
set_option maxHeartbeats 1000000
end Go.Proofs.YtadinjaocnlglaaGreatDoor
namespace Go.Proofs.YtadinjaocnlglaaGreatDoor
open Go.RowKit Go.Maps
set_option maxRecDepth 100000
set_option maxHeartbeats 1000000
end Go.Proofs.YtadinjaocnlglaaGreatDoor
namespace Go.Proofs.YtadinjaocnlglaaGreatDoor
open Go.RowKit
set_option maxRecDepth 100000
set_option maxHeartbeats 2000000
/-- the first n of some texts, as values -/
def txV (L : Nat → ByteArray) (n : Nat) : List Value := (List.range n).map fun i => .string (L i)
end Go.Proofs.YtadinjaocnlglaaGreatDoor
namespace Go.Proofs.YtadinjaocnlglaaGreatDoor
open Go.RowKit Go.Maps Go.Sort Go.Shelf
set_option maxRecDepth 100000
set_option maxHeartbeats 1000000
end Go.Proofs.YtadinjaocnlglaaGreatDoor
namespace Go.Proofs.YtadinjaocnlglaaGreatDoor
open Go.RowKit
set_option maxRecDepth 100000
set_option maxHeartbeats 1000000
end Go.Proofs.YtadinjaocnlglaaGreatDoor
namespace Go.Proofs.YtadinjaocnlglaaGreatDoor
open Go.RowKit
set_option maxRecDepth 100000
set_option maxHeartbeats 1000000
end Go.Proofs.YtadinjaocnlglaaGreatDoor
namespace Go.Proofs.YtadinjaocnlglaaGreatDoor
open Go.RowKit
set_option maxRecDepth 100000
set_option maxHeartbeats 2000000
end Go.Proofs.YtadinjaocnlglaaGreatDoor
namespace Go.Proofs.YtadinjaocnlglaaGreatDoor
open Go.RowKit
set_option maxRecDepth 100000
set_option maxHeartbeats 1000000
end Go.Proofs.YtadinjaocnlglaaGreatDoor
namespace Go.Proofs.YtadinjaocnlglaaGreatDoor
open Go.RowKit
set_option maxRecDepth 100000
set_option maxHeartbeats 4000000
end Go.Proofs.YtadinjaocnlglaaGreatDoor
namespace Go.Proofs.YtadinjaocnlglaaGreatDoor
open Go.RowKit
set_option maxRecDepth 100000
set_option maxHeartbeats 4000000
end Go.Proofs.YtadinjaocnlglaaGreatDoor
namespace Go.Proofs.YtadinjaocnlglaaGreatDoor
open Go.RowKit
set_option maxRecDepth 100000
set_option maxHeartbeats 2000000
end Go.Proofs.YtadinjaocnlglaaGreatDoor
namespace Go.Proofs.YtadinjaocnlglaaGreatDoor
open Go.RowKit
set_option maxRecDepth 100000
set_option maxHeartbeats 4000000
theorem rblocks_any (K M C V len z : Nat) (w : World) (hz : K * C = z) (hz0 : 0 < z) (hz1 : z ≤ 100000) (hl : len ≤ 100000) (hK : K ≤ 1000) (hM : M ≤ 1000) :
    Calls Tryz.prog 133 #[.agg #[.int .i64 K, .int .i64 M, .int .i64 C, .int .i64 V], .int .i64 len] w fun e w' => e = .returned (.int .i64 (nst z len * (K + M) : Nat)) ∧ Below w.heap.size w w' := by
  have e1 : (K : Int) * (C : Int) = (z : Int) := by rw [← hz]; simp
  have e2 : (len : Int) + (z : Int) - 1 = ((len + z - 1 : Nat) : Int) := by omega
  have d1 : ((len : Int) + (z : Int) - 1) / (z : Int) = (((len + z - 1) / z : Nat) : Int) := by rw [e2, Int.natCast_ediv]
  have hne : ((z : Int) == 0) = false := by simp; omega
  have hns : nst z len ≤ 200000 := Nat.le_trans (Nat.div_le_self _ _) (by omega)
  have hd : nst z len = (len + z - 1) / z := rfl
  rw [← hd] at d1
  obtain ⟨n, hn⟩ : ∃ n, nst z len = n := ⟨_, rfl⟩
  rw [hn] at d1 hns ⊢
  have h1 : n * (K + M) ≤ 400000000 := Nat.le_trans (Nat.mul_le_mul hns (show K + M ≤ 2000 by omega)) (by omega)
  obtain ⟨r, hr⟩ : ∃ r, n * (K + M) = r := ⟨_, rfl⟩
  have e3 : (n : Int) * ((K : Int) + (M : Int)) = (r : Int) := by rw [← hr]; simp
  have e4 : ((len : Int) + (z : Int) - 1) / (z : Int) * ((K : Int) + (M : Int)) = (r : Int) := by rw [d1, e3]
  have E4 : Hid _ := e4
  rw [hr] at h1 ⊢
  clear hn hr hz e2 d1 hd e3 e4
  have hO : (w.alloc (Obj.cells #[Value.int IntKind.i64 K, Value.int IntKind.i64 M, Value.int IntKind.i64 C, Value.int IntKind.i64 V] 23)).heap[w.heap.size]? = some (.cells #[.int .i64 K, .int .i64 M, .int .i64 C, .int .i64 V] 23 (0, 0)) := heap_alloc_new _ _
  have c0 := cell_of_row _ _ 0 _ 23 _ hO
  have c1 := cell_of_row _ _ 1 _ 23 _ hO
  clear hO
  go_enter Tryz.func133, Tryz.ntmps133
  go_wp2
  go_quiet (fail)
  go_wp2
  go_ret
  refine ⟨?_, below_drewN ((Below.refl _ _).alloc (Nat.le_refl _) _) nq⟩
  show Ending.returned (.int .i64 (wrap64 (((len : Int) + (z : Int) - 1) / (z : Int) * ((K : Int) + (M : Int))))) = _
  have a2 : wrap64 (r : Int) = (r : Int) := by unfold wrap64; omega
  rw [E4.out, a2]
/-- the list's head -/
def hdT (K M C V n : Nat) : ByteArray := ⟨#[86, 76, 84, 49]⟩ ++ vint K ++ vint M ++ vint C ++ vint V ++ vint n
/-- and so many entries -/
def lsR (h : ByteArray) (Nm : Nat → ByteArray) (Ln : Nat → Nat) : Nat → ByteArray
  | 0 => h
  | j + 1 => lsR h Nm Ln j ++ vint (Nm j).size ++ Nm j ++ vint (Ln j)
theorem lsR_eq (h : ByteArray) (l : List UInt8) (hh : h.data.toList = l) (Nm : Nat → ByteArray) (Ln : Nat → Nat) : ∀ j, (lsR h Nm Ln j).data.toList = lst2 l Nm Ln j
  | 0 => hh
  | j + 1 => by
    rw [lsR, lst2, ← lsR_eq h l hh Nm Ln j]; simp
theorem hdT_eq (K M C V n : Nat) : (hdT K M C V n).data.toList = lst1 (num5 K M C V n) 5 := by
  unfold hdT
  simp [lst1, num5, vltT]
theorem lstT_eq (K M C V n : Nat) (Nm : Nat → ByteArray) (Ln : Nat → Nat) : lstT K M C V n Nm Ln = lsR (hdT K M C V n) Nm Ln n := by
  apply by_inj
  rw [lsR_eq (hdT K M C V n) _ (hdT_eq K M C V n)]
  rfl
theorem lsR_size (h : ByteArray) (Nm : Nat → ByteArray) (Ln : Nat → Nat) (hN : ∀ j, (Nm j).size ≤ 1000) : ∀ j, (lsR h Nm Ln j).size ≤ h.size + 1010 * j
  | 0 => by simp [lsR]
  | j + 1 => by
    have h1 := lsR_size h Nm Ln hN j
    have h2 := hN j
    have h3 := vint_size (Nm j).size
    have h4 := vint_size (Ln j)
    rw [lsR, ByteArray.size_append, ByteArray.size_append, ByteArray.size_append]; omega
theorem rlist_any (K M C V n cap : Nat) (a : Option Addr) (Nm : Nat → ByteArray) (Ln : Nat → Nat) (w : World) (hK : K ≤ 100000) (hM : M ≤ 100000) (hC : C ≤ 100000) (hV : V ≤ 100000) (hn : n ≤ 100000) (hN : ∀ j, (Nm j).size ≤ 1000) (hLn : ∀ j, Ln j ≤ 100000)
    (hE : ∀ j, j < n → ∃ b, a = some ⟨b, 0, none⟩ ∧ b < w.heap.size ∧ w.cell? ⟨b, j * 2, none⟩ = some (.string (Nm j)) ∧ w.cell? ⟨b, j * 2 + 1, none⟩ = some (.int .i64 (Ln j))) :
    Calls Tryz.prog 85 #[.agg #[.int .i64 K, .int .i64 M, .int .i64 C, .int .i64 V], .slice a n cap] w fun e w' => e = .returned (.string (lstT K M C V n Nm Ln)) ∧ Below w.heap.size w w' := by
  rw [lstT_eq]
  have HE : Hid _ := hE
  have HN : Hid _ := hN
  have HLN : Hid _ := hLn
  have vK := vint_size K
  have vM := vint_size M
  have vC := vint_size C
  have vV := vint_size V
  have vn := vint_size n
  have hv4 : (⟨#[86, 76, 84, 49]⟩ : ByteArray).size = 4 := rfl
  have k1 : ¬ (9223372036854775807 < 4 + (vint K).size) := by omega
  have k2 : ¬ (9223372036854775807 < 4 + (vint K).size + (vint M).size) := by omega
  have k3 : ¬ (9223372036854775807 < 4 + (vint K).size + (vint M).size + (vint C).size) := by omega
  have k4 : ¬ (9223372036854775807 < 4 + (vint K).size + (vint M).size + (vint C).size + (vint V).size) := by omega
  have k5 : ¬ (9223372036854775807 < 4 + (vint K).size + (vint M).size + (vint C).size + (vint V).size + (vint n).size) := by omega
  have HH : Hid ((hdT K M C V n).size ≤ 29) := by
    show _ ≤ _
    unfold hdT
    rw [ByteArray.size_append, ByteArray.size_append, ByteArray.size_append, ByteArray.size_append, ByteArray.size_append, hv4]; omega
  have HBX : Hid (Below w.heap.size w (w.alloc (.cells #[.int .i64 K, .int .i64 M, .int .i64 C, .int .i64 V] 23))) := (Below.refl _ _).alloc (Nat.le_refl _) _
  have hO : (w.alloc (.cells #[.int .i64 K, .int .i64 M, .int .i64 C, .int .i64 V] 23)).heap[w.heap.size]? = some (.cells #[.int .i64 K, .int .i64 M, .int .i64 C, .int .i64 V] 23 (0, 0)) := heap_alloc_new _ _
  obtain ⟨s0, hs0⟩ : ∃ s0, w.alloc (.cells #[.int .i64 K, .int .i64 M, .int .i64 C, .int .i64 V] 23) = s0 := ⟨_, rfl⟩
  rw [hs0] at HBX hO
  have d0 : s0.cell? ⟨w.heap.size, 0, none⟩ = some (.int .i64 K) := cell_of_row _ _ _ _ 23 _ hO
  have d1 : s0.cell? ⟨w.heap.size, 1, none⟩ = some (.int .i64 M) := cell_of_row _ _ _ _ 23 _ hO
  have d2 : s0.cell? ⟨w.heap.size, 2, none⟩ = some (.int .i64 C) := cell_of_row _ _ _ _ 23 _ hO
  have d3 : s0.cell? ⟨w.heap.size, 3, none⟩ = some (.int .i64 V) := cell_of_row _ _ _ _ 23 _ hO
  have hxl : w.heap.size < s0.heap.size := (Array.getElem?_eq_some_iff.1 hO).1
  obtain ⟨x, hx⟩ : ∃ x, w.heap.size = x := ⟨_, rfl⟩
  have HX : Hid (w.heap.size = x) := hx
  clear hE hN hLn hO
  go_enter Tryz.func85, Tryz.ntmps85
  go_wp2_with fail
  rw [hx] at d0 d1 d2 d3 hxl
  clear hs0 hx
  go_region_held3 (fun w2 => w2.cell? ⟨x, 0, none⟩ = some (.int .i64 K) ∧ w2.cell? ⟨x, 1, none⟩ = some (.int .i64 M) ∧ w2.cell? ⟨x, 2, none⟩ = some (.int .i64 C) ∧ w2.cell? ⟨x, 3, none⟩ = some (.int .i64 V)) (go_keep) ((go_at_call 136; refine (rvint_any _ _ (by omega)).mono ?_; rintro e w2 ⟨rfl, hb2⟩; have hB2 : Below s0.heap.size s0 w2 := (by first | exact hB2.trans (hb2.mono hB2.size) | exact hb2 | exact ((Below.refl _ _).drew).trans hb2); have q0 := (hB2.cell (p := ⟨x, 0, none⟩) hxl).trans d0; have q1 := (hB2.cell (p := ⟨x, 1, none⟩) hxl).trans d1; have q2 := (hB2.cell (p := ⟨x, 2, none⟩) hxl).trans d2; have q3 := (hB2.cell (p := ⟨x, 3, none⟩) hxl).trans d3))
  have HB2 : Hid (Below w.heap.size w w2) := HBX.out.trans (hB2.mono HBX.out.size)
  have he : (⟨#[86, 76, 84, 49]⟩ : ByteArray) ++ vint K ++ vint M ++ vint C ++ vint V ++ vint n = hdT K M C V n := rfl
  rw [he]
  obtain ⟨h, hh⟩ : ∃ h, hdT K M C V n = h := ⟨_, rfl⟩
  have HHH : Hid _ := hh
  rw [hh] at HH ⊢
  clear he hh q0 q1 q2 q3 d0 d1 d2 d3 k1 k2 k3 k4 k5 vK vM vC vV vn hv4 hB2 hb2
  go_wp2
  go_loopw [5, 6] (fun sv jv wr => ∃ j : Nat, j ≤ n ∧ jv = .int .i64 j ∧ sv = .string (lsR h Nm Ln j) ∧ Below w.heap.size w wr) (fun _ jv _ => n - (intOf jv).toNat)
  case atStart => exact ⟨0, by omega, rfl, rfl, HB2.out⟩
  case round =>
    obtain ⟨j, hj, rfl, rfl, hb⟩ := hrel
    by_cases hlt : j < n
    · obtain ⟨b, ha, hbl, e0, e1⟩ := HE.out j hlt
      subst ha
      have g0 : wr.cell? ⟨b, j * 2, none⟩ = some (.string (Nm j)) := (hb.cell (p := ⟨b, j * 2, none⟩) hbl).trans e0
      have g1 : wr.cell? ⟨b, j * 2 + 1, none⟩ = some (.int .i64 (Ln j)) := (hb.cell (p := ⟨b, j * 2 + 1, none⟩) hbl).trans e1
      have z1 := lsR_size h Nm Ln HN.out j
      have z2 := HN.out j
      have z3 := vint_size (Nm j).size
      have z4 := vint_size (Ln j)
      have z5 := HLN.out j
      have HS : Hid (lsR h Nm Ln (j + 1) = lsR h Nm Ln j ++ vint (Nm j).size ++ Nm j ++ vint (Ln j)) := rfl
      have hh29 := HH.out
      obtain ⟨A, hA⟩ : ∃ A, lsR h Nm Ln j = A := ⟨_, rfl⟩
      obtain ⟨T, hT⟩ : ∃ T, Nm j = T := ⟨_, rfl⟩
      obtain ⟨L, hL⟩ : ∃ L, Ln j = L := ⟨_, rfl⟩
      rw [hA, hT, hL] at HS
      rw [hA] at z1 ⊢
      rw [hT] at g0 z2 z3
      rw [hL] at g1 z4 z5
      have k1 : ¬ (9223372036854775807 < A.size + (vint T.size).size) := by omega
      have k2 : ¬ (9223372036854775807 < A.size + (vint T.size).size + T.size) := by omega
      have k3 : ¬ (9223372036854775807 < A.size + (vint T.size).size + T.size + (vint L).size) := by omega
      have hbl2 : b < wr.heap.size := Nat.lt_of_lt_of_le hbl hb.size
      have HBR : Hid (Below w.heap.size w wr) := hb
      have hj0 : (0 : Int) ≤ (j : Int) := by omega
      have hjn : (j : Int) < (n : Int) := by omega
      clear hA hT hL e0 e1 hb
      go_wp2_with fail
      go_region_held3 (fun w2 => w2.cell? ⟨b, j * 2, none⟩ = some (.string T) ∧ w2.cell? ⟨b, j * 2 + 1, none⟩ = some (.int .i64 L)) (go_keep) ((go_at_call 136; refine (rvint_any _ _ (by omega)).mono ?_; rintro e w3 ⟨rfl, hb3⟩; have hB3 : Below wr.heap.size wr w3 := (by first | exact hB3.trans (hb3.mono hB3.size) | exact hb3 | exact ((Below.refl _ _).drew).trans hb3); have q0 := (hB3.cell (p := ⟨b, j * 2, none⟩) hbl2).trans g0; have q1 := (hB3.cell (p := ⟨b, j * 2 + 1, none⟩) hbl2).trans g1))
      have HB3 : Hid (Below w.heap.size w w3) := HBR.out.trans (hB3.mono HBR.out.size)
      clear q0 q1 g0 g1 hB3 hb3
      go_wp2
      go_roundw
      case rel => exact ⟨j + 1, by omega, by go_num, by rw [HS.out], HB3.out⟩
      case measure => simp [intOf]; omega
    · have e : j = n := by omega
      subst e
      have HBR : Hid (Below w.heap.size w wr) := hb
      clear hb
      go_wp2
      go_ret
      exact ⟨by rw [HHH.out]; rfl, HBR.out⟩
end Go.Proofs.YtadinjaocnlglaaGreatDoor
