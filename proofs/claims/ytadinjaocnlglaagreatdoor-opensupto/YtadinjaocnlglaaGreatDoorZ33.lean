/-
  Plain: the weights of the document's answer are those of Lagrange's sum; the walk of vaultref's shares.
  The walk of vaultref's value.
  The document's answer to Parity.
  The document's laid.
  Close of the document's Writer.
  A desk: Close on both sides.
  The document's Head in the memory while a volume is read.
-/
import Derived.Test.YtadinjaocnlglaaGreatDoorZ18
import Derived.Test.YtadinjaocnlglaaGreatDoorZ32
import Derived.Test.YtadinjaocnlglaaGreatDoorZ04
import Derived.Test.YtadinjaocnlglaaGreatDoorZ08
import Derived.Test.YtadinjaocnlglaaGreatDoorZ19
import Derived.Test.YtadinjaocnlglaaGreatDoorZ06
import Derived.Test.YtadinjaocnlglaaGreatDoorZ13
import Derived.Deep.CutRange
import Derived.Laws.OwnMore
import Derived.Test.YtadinjaocnlglaaGreatDoorZ22
import Derived.Test.YtadinjaocnlglaaGreatDoorZ31
namespace Go.Proofs.YtadinjaocnlglaaGreatDoor
open Go.RowKit
set_option maxRecDepth 100000
namespace Fld
variable {F : Type} (K : Fld F)
def prd (d : Nat → F) (i : Nat) : Nat → F
 | 0 => K.one
 | k + 1 => if k = i then prd d i k else K.mul (prd d i k) (d k)
theorem prd_lo (d : Nat → F) (i : Nat) : ∀ k, k ≤ i → K.prd d i k = K.ahd d k
 | 0, _ => rfl
 | k + 1, h => by rw [prd, if_neg (by omega), prd_lo d i k (by omega)]; rfl
theorem prd_hi (d : Nat → F) (i : Nat) : ∀ t, K.prd d i (i + 1 + t) = K.mul (K.ahd d i) (K.bhd d (i + 1 + t) t)
 | 0 => by
  show K.prd d i (i + 1) = K.mul _ K.one
  rw [prd, if_pos rfl, prd_lo K d i i (by omega), K.mul_one]
 | t + 1 => by
  rw [show i + 1 + (t + 1) = (i + 1 + t) + 1 by omega, prd, if_neg (by omega), prd_hi d i t, bhd_front K _ (i + 1 + t) t (by omega)]
  rw [K.mul_assoc, K.mul_comm (K.bhd _ _ t)]
theorem prd_oth (d : Nat → F) (n i : Nat) (hi : i < n) : K.prd d i n = K.oth d n i := by
 have := prd_hi K d i (n - 1 - i)
 rwa [show i + 1 + (n - 1 - i) = n by omega] at this
end Fld
def prd (d : Nat → Nat) (i : Nat) : Nat → Nat
 | 0 => 1
 | k + 1 => if k = i then prd d i k else gm (prd d i k) (d k)
theorem prd_lt (d : Nat → Nat) (i : Nat) : ∀ k, prd d i k < 256
 | 0 => by show 1 < 256; omega
 | k + 1 => by
  rw [prd]
  split
  ·exact prd_lt d i k
  ·exact gm_lt _ _ (prd_lt d i k)
theorem prd_gf (d : Nat → Nat) (D : Nat → N8) (n : Nat) (hD : ∀ l, l < n → (D l).1 = d l) (i : Nat) : ∀ k, k ≤ n → prd d i k = (GF.prd D i k).1
 | 0, _ => rfl
 | k + 1, h => by
  rw [prd, Fld.prd]
  by_cases e : k = i
  ·rw [if_pos e, if_pos e]; exact prd_gf d D n hD i k (by omega)
  ·rw [if_neg e, if_neg e]
   show gm (prd d i k) (d k) = gm (GF.prd D i k).1 (D k).1
   rw [prd_gf d D n hD i k (by omega), hD k (by omega)]
theorem prd_oth (d : Nat → Nat) (n i : Nat) (hd : ∀ l, l < n → d l < 256) (hi : i < n) : prd d i n = oth d n i := by
 have hD : ∀ l, l < n → (m8 (d l)).1 = d l := fun l hl => m8_val _ (hd l hl)
 rw [prd_gf d (fun l => m8 (d l)) n hD i n (Nat.le_refl _), oth_gf d (fun l => m8 (d l)) n hD i hi, Fld.prd_oth GF _ n i hi]
theorem share_wt (p : Nat → Nat) (n x i : Nat) (hx : x < 256) (hp : ∀ l, l < n → p l < 256) (hi : i < n) : gm (prd (fun l => x ^^^ p l) i n) (gi (hgt p i n)) = wt p n x i := by
 unfold wt scl
 rw [(gm_ones _ (gi_lt _ (hgt_lt p i n))).2.1, prd_oth (fun l => x ^^^ p l) n i (fun l hl => Nat.xor_lt_two_pow (n := 8) hx (hp l hl)) hi]
set_option maxHeartbeats 2000000 in
theorem shares_any (p : Nat → Nat) (b n cap x : Nat) (w : World) (hn : n ≤ 1000) (hx : x < 256) (hp : ∀ i, i < n → p i < 256) (hb0 : b < w.heap.size) (hc : Cl w b n (pI p)) :
  Calls Tryz.prog 277 #[.slice (some ⟨b, 0, none⟩) n cap, .int .i64 x] w fun e w' => e = .returned (.slice (some ⟨w.heap.size, 0, none⟩) n n) ∧ Rw w' w.heap.size n 3 (pI (wt p n x)) ∧ Below w.heap.size w w' := by
 have HC : Hid _ := hc
 have HP : Hid _ := hp
 clear hc hp
 have hmk := run_make_row' (P := Tryz.prog) 39 3 (.int .i64 0) 8 Tryz.underlying39 info3 rfl .i64 .i64 n (by omega) (by omega)
 go_enter Tryz.func277, Tryz.ntmps277
 go_wp2
 go_loopw [6] (fun i wr => ∃ k : Nat, k ≤ n ∧ i = .int .i64 k ∧ Below w.heap.size w wr ∧ Rw wr w.heap.size n 3 (part' k (pI (wt p n x)) (.int .i64 0))) (fun i _ => n - (intOf i).toNat)
 case atStart => exact ⟨0, by omega, rfl, (Below.refl _ _).alloc (Nat.le_refl _) _, (Rw.made w n 3 (.int .i64 0)).to (fun j _ => (part_0 _ _ j).symm)⟩
 case round =>
  obtain ⟨i, hi, rfl, hb, hR⟩ := hrel
  by_cases hlt : i < n
  ·have HB : Hid _ := hb
   have HR : Hid _ := hR
   clear hb hR
   have hpi := HP.out i hlt
   go_wp2
   go_loopw [9, 7, 8] (fun j a c wq => ∃ k : Nat, k ≤ n ∧ j = .int .i64 k ∧ a = .int .i64 ((prd (fun l => x ^^^ p l) i k : Nat) : Int) ∧ c = .int .i64 ((hgt p i k : Nat) : Int) ∧ ∃ q, wq = wr.drewN q) (fun j _ _ _ => n - (intOf j).toNat)
   case atStart => exact ⟨0, by omega, rfl, rfl, rfl, 0, rfl⟩
   case round =>
    obtain ⟨k, hk, rfl, rfl, rfl, q, hq⟩ := hrel
    have HB2 : Hid (Below w.heap.size w wr) := by show Below _ _ _; rw [hq]; exact below_drewN HB.out q
    have HR2 : Hid (Rw wr w.heap.size n 3 (part' i (pI (wt p n x)) (.int .i64 0))) := by show Rw _ _ _ _ _; rw [hq]; exact HR.out
    have HQ : Hid _ := hq
    clear hq
    have hA := prd_lt (fun l => x ^^^ p l) i k
    have hH := hgt_lt p i k
    by_cases hlk : k < n
    ·have c3 : wr.cell? ⟨b, i, none⟩ = some (.int .i64 ((p i : Nat) : Int)) := Cl.below HC.out HB2.out hb0 i hlt
     have c4 : wr.cell? ⟨b, k, none⟩ = some (.int .i64 ((p k : Nat) : Int)) := Cl.below HC.out HB2.out hb0 k hlk
     have hpk := HP.out k hlk
     have hx1 : x ^^^ p k < 256 := Nat.xor_lt_two_pow (n := 8) hx hpk
     have hx2 : p i ^^^ p k < 256 := Nat.xor_lt_two_pow (n := 8) hpi hpk
     have HX1 : Hid _ := i64_xor_nat x (p k) (by omega) (by omega)
     have HX2 : Hid _ := i64_xor_nat (p i) (p k) (by omega) (by omega)
     by_cases hki : k = i
     ·have hne : ((k : Int) != (i : Int)) = false := by rw [bne_eq_false_iff_eq]; omega
      go_wp2
      go_roundw
      case rel => exact ⟨k + 1, by omega, by go_num, by rw [prd, if_pos hki], by rw [hgt, if_pos hki], q, HQ.out⟩
      case measure => simp [intOf]; omega
     ·have hne : ((k : Int) != (i : Int)) = true := by rw [bne_iff_ne]; omega
      go_wp2_with fail
      rw [HX1.out]
      refine (mul_any _ _ _ hA hx1).mono ?_
      rintro e w2 ⟨rfl, rfl⟩
      go_wp2
      go_quiet (first | (go_at_call 278; rw [HX2.out]; exact Calls.quiet_of_same (mul_any _ _ _ hH hx2)))
      go_wp2
      go_roundw
      case rel => exact ⟨k + 1, by omega, by go_num, by rw [prd, if_neg hki], by rw [hgt, if_neg hki], _, by rw [HQ.out]; rw [World.drewN_drewN]⟩
      case measure => simp [intOf]; omega
    ·have e : k = n := by omega
     subst e
     have c1 := HR2.out.cell i hlt
     have c2 := HR2.out.free i
     have hgi := gi_lt _ hH
     have HW : Hid _ := share_wt p k x i hx HP.out hlt
     obtain ⟨hh, hhe⟩ : ∃ hh, hgt p i k = hh := ⟨_, rfl⟩
     obtain ⟨aa, hae⟩ : ∃ aa, prd (fun l => x ^^^ p l) i k = aa := ⟨_, rfl⟩
     rw [hhe] at hH HW hgi ⊢
     rw [hae] at hA HW ⊢
     clear hhe hae
     go_wp2_with fail
     refine (rinv_any _ _ hH).mono ?_
     rintro e w2 ⟨rfl, rfl⟩
     go_wp2_with fail
     refine (mul_any _ _ _ hA hgi).mono ?_
     rintro e w2 ⟨rfl, rfl⟩
     rw [HW.out]
     go_wp2
     go_roundw
     case rel => exact ⟨i + 1, by omega, by go_num, HB2.out.setCell (Nat.le_refl _) _, (HR2.out.put i _).to (fun j _ => by rw [← part_step]; rfl)⟩
     case measure => simp [intOf]; omega
  ·have e : i = n := by omega
   subst e
   go_wp2
   go_ret
   exact ⟨rfl, hR.to (fun j hj => by simp [part', hj]), hb⟩
end Go.Proofs.YtadinjaocnlglaaGreatDoor
namespace Go.Proofs.YtadinjaocnlglaaGreatDoor
open Go.RowKit
set_option maxRecDepth 100000
def byV (f : Nat → Nat) (c : Nat) : List Value := (List.range c).map fun l => .int .u8 ((f l : Nat) : Int)
theorem byV_snoc (f : Nat → Nat) (c : Nat) : byV f (c + 1) = byV f c ++ [.int .u8 ((f c : Nat) : Int)] := by simp [byV, List.range_succ]
set_option maxHeartbeats 4000000 in
theorem value_any (p : Nat → Nat) (S : Nat → ByteArray) (n x b cap b2 o2 cap2 c : Nat) (w : World) (hn0 : 0 < n) (hn : n ≤ 1000) (hx : x < 256) (hp : ∀ i, i < n → p i < 256) (hc : c ≤ 1000000000000) (hS : ∀ i, i < n → (S i).size = c)
  (hb : b < w.heap.size) (hC : Cl w b n (pI p)) (hb2 : b2 < w.heap.size) (hC2 : ∀ i, i < n → w.cell? ⟨b2, o2 + i, none⟩ = some (.string (S i))) :
  Calls Tryz.prog 236 #[.slice (some ⟨b, 0, none⟩) n cap, .slice (some ⟨b2, o2, none⟩) n cap2, .int .i64 x] w fun e w' => e = .returned (.string (txtN c fun l => sm (wt p n x) (fun i l => bN (S i) l) l n)) ∧ Below w.heap.size w w' := by
 have H : Hid _ := shares_any p b n cap x w hn hx hp hb hC
 have HS : Hid _ := hS
 have HC2 : Hid _ := hC2
 clear hS hC2 hC hp
 obtain ⟨f, hf⟩ : ∃ f : Nat → Nat, (fun l => sm (wt p n x) (fun i l => bN (S i) l) l n) = f := ⟨_, rfl⟩
 have hfl : ∀ l, f l < 256 := fun l => by rw [← hf]; exact sm_wt_lt p _ n x l n
 rw [hf]
 have HF : Hid (∀ l, f l = sm (wt p n x) (fun i l => bN (S i) l) l n) := fun l => by rw [← hf]
 have HFL : Hid _ := hfl
 clear hf hfl
 obtain ⟨i0, hi, hz0, hz1, hz2⟩ := info_parts info5
 go_enter Tryz.func236, Tryz.ntmps236
 go_wp2_with fail
 refine Calls.mono H.out ?_
 rintro e w1 ⟨rfl, hR1, hB1⟩
 have HR1 : Hid (Rw w1 w.heap.size n 3 (pI (wt p n x))) := hR1
 have HB1 : Hid _ := hB1
 have hwl : w.heap.size < w1.heap.size := hR1.lt
 clear hR1 hB1 H
 obtain ⟨gw, hgw⟩ : ∃ gw, gw = w.heap.size := ⟨_, rfl⟩
 rw [← hgw] at HR1 hwl ⊢
 have hb2w : b2 < gw := by omega
 have HGW : Hid _ := hgw
 clear hgw
 have HC1 : Hid (∀ i, i < n → w1.cell? ⟨b2, o2 + i, none⟩ = some (.string (S i))) := fun i hin => (HB1.out.cell (p := ⟨b2, o2 + i, none⟩) hb2).trans (HC2.out i hin)
 go_wp2
 go_loopw [9, 8] (fun iv v wr => ∃ l : Nat, l ≤ c ∧ iv = .int .i64 l ∧ wr.ownsRow w1.heap.size 5 1 v l (byV f l) ∧ Below w1.heap.size w1 wr) (fun iv _ _ => c - (intOf iv).toNat)
 case atStart => exact ⟨0, by omega, rfl, World.ownsRow_nil _ _ _ _, Below.refl _ _⟩
 case round =>
  obtain ⟨l, hl, rfl, hown, hbl⟩ := hrel
  obtain ⟨va, vc, hv⟩ := own_shape hown
  subst hv
  have HOW : Hid (wr.ownsRow w1.heap.size 5 1 (.slice va l vc) l (byV f l)) := hown
  have HBL : Hid (Below w1.heap.size w1 wr) := hbl
  have c0 : wr.cell? ⟨b2, o2, none⟩ = some (.string (S 0)) := (hbl.cell (p := ⟨b2, o2, none⟩) (by simp; omega)).trans (HC1.out 0 hn0)
  have hs0 := HS.out 0 hn0
  clear hown hbl
  by_cases hlt : l < c
  ·have h1 : (l : Int) < ((S 0).size : Int) := by omega
   go_wp2
   go_loopw [11, 10] (fun iv sv wq => ∃ k q : Nat, k ≤ n ∧ iv = .int .i64 k ∧ sv = .int .i64 ((sm (wt p n x) (fun i l => bN (S i) l) l k : Nat) : Int) ∧ wq = wr.drewN q) (fun iv _ _ => n - (intOf iv).toNat)
   case atStart => exact ⟨0, 0, by omega, rfl, rfl, rfl⟩
   case round =>
    obtain ⟨k, q, hk, rfl, rfl, hq⟩ := hrel
    have hsl := sm_wt_lt p (fun i l => bN (S i) l) n x l k
    by_cases hlk : k < n
    ·have HN : Hid (sm (wt p n x) (fun i l => bN (S i) l) l (k + 1) = sm (wt p n x) (fun i l => bN (S i) l) l k ^^^ gm (wt p n x k) (bN (S k) l)) := rfl
     obtain ⟨s, hs⟩ : ∃ s, sm (wt p n x) (fun i l => bN (S i) l) l k = s := ⟨_, rfl⟩
     rw [hs] at HN hsl ⊢
     have hwk := wt_lt p n x k
     have hbk := bN_lt (S k) l
     have hgl : gm (wt p n x k) (bN (S k) l) < 256 := gm_lt _ _ hwk
     have HXO : Hid _ := i64_xor_nat s (gm (wt p n x k) (bN (S k) l)) (by omega) (by omega)
     have c3 : wr.cell? ⟨gw, k, none⟩ = some (.int .i64 ((wt p n x k : Nat) : Int)) := by rw [hq]; exact (HBL.out.cell (p := ⟨gw, k, none⟩) hwl).trans (HR1.out.cell k hlk)
     have c4 : wr.cell? ⟨b2, o2 + k, none⟩ = some (.string (S k)) := by rw [hq]; exact (HBL.out.cell (p := ⟨b2, o2 + k, none⟩) (by simp; omega)).trans (HC1.out k hlk)
     have hix := index_bN (S k) l (by rw [HS.out k hlk]; exact hlt)
     have HQ : Hid _ := hq
     clear hq hs
     go_wp2
     go_quiet (first | (go_at_call 278; exact Calls.quiet_of_same (mul_any _ _ _ hwk hbk)))
     go_wp2
     go_roundw
     case rel => exact ⟨k + 1, _, by omega, by go_num, by rw [HN.out, HXO.out], by rw [HQ.out, World.drewN_drewN]⟩
     case measure => simp [intOf]; omega
    ·have e : k = n := by omega
     have HO : Hid (wr.ownsRow w1.heap.size 5 1 (.slice va l vc) l (byV f l)) := by show wr.ownsRow _ _ _ _ _ _; rw [hq]; exact own_below HOW.out (below_drewN (Below.refl _ _) q)
     have HB : Hid (Below w1.heap.size w1 wr) := by show Below _ _ _; rw [hq]; exact below_drewN HBL.out q
     rw [e, ← HF.out l] at hsl ⊢
     clear hq
     have hmod : ((f l : Nat) : Int) % 256 = ((f l : Nat) : Int) := by omega
     have hB' : w1.heap.size ≤ (wr.alloc (Obj.cells #[Value.int IntKind.u8 ((f l : Nat) : Int)] 5)).heap.size := by have := HB.out.size; simp; omega
     go_wp2_with (at_builtin; refine wpList_append_own_at _ rfl (.tmp 43) (.tmp 46) 165 rfl w1.heap.size 5 i0 (.int .u8 0) 1 1 Tryz.underlying165 hi hz0 hz1 hz2 rfl (by decide) _ l (byV f l) rfl (HO.out.alloc _) ⟨wr.heap.size, 0, none⟩ 1 1 [.int .u8 ((f l : Nat) : Int)] rfl rfl (cell_one_new _ _ _) (by intro u hu; simp at hu; subst hu; rfl) ?kb ?kc hB' ?_)
     case kb => unfold maxLen; omega
     case kc => omega
     intro v' w' hown' hgrow _ hblk
     have hbl' : Below w1.heap.size w1 w' := (HB.out.alloc HB.out.size _).grown hgrow hB' (fun g hg => own_ge HO.out g hg)
     have ho' : w'.ownsRow w1.heap.size 5 1 v' (l + 1) (byV f (l + 1)) := by rw [byV_snoc]; exact hown'
     clear hown' hgrow hblk HO HB HOW HBL hB'
     go_wp2
     go_roundw
     case rel => exact ⟨l + 1, by omega, by go_num, ho', hbl'⟩
     case measure => simp [intOf]; omega
  ·have e : l = c := by omega
   subst e
   have h1 : ((S 0).size : Int) ≤ (l : Int) := by omega
   rcases HOW.out.2 with ⟨hv, h0⟩ | ⟨g, cap', cur, hv, hg, hh, rest⟩
   ·simp only [Value.slice.injEq] at hv
    obtain ⟨rfl, rfl, rfl⟩ := hv
    have hcv : ∀ W : World, (convert 165 9 (.slice none 0 0)).run Tryz.prog W = .ok (.string ⟨#[]⟩) W := fun W => by kernel_rfl
    go_wp2
    go_ret
    exact ⟨by congr 2, HB1.out.trans (HBL.out.mono HB1.out.size)⟩
   ·simp only [Value.slice.injEq] at hv
    obtain ⟨rfl, _, rfl⟩ := hv
    have hcv := run_convert_bytes_arg (P := Tryz.prog) wr 165 5 Tryz.underlying165 Tryz.underlying5 g 0 l vc ((List.range l).map fun i => ((f i : Nat) : Int)) (by simp) (fun i hi => by
     rw [Nat.zero_add, HOW.out.cellAt i (by omega)]
     simp [byV, hi]) 9 Tryz.underlying9
    go_wp2
    go_ret
    exact ⟨rfl, HB1.out.trans (HBL.out.mono HB1.out.size)⟩
set_option maxHeartbeats 4000000
theorem own_baseq {w : World} {base b' : Nat} {e : TypeId} {size : Nat} {v : Value} {n : Nat} {xs : List Value} (h : w.ownsRow base e size v n xs) (hb : b' ≤ base) : w.ownsRow b' e size v n xs := by
 refine ⟨h.1, ?_⟩
 rcases h.2 with h2 | ⟨g, cap, cur, hv, hg, rest⟩
 ·exact .inl h2
 ·exact .inr ⟨g, cap, cur, hv, Nat.le_trans hb hg, rest⟩
theorem tV_snocq (T : Nat → ByteArray) (n : Nat) : tV T (n + 1) = tV T n ++ [.string (T n)] := by simp [tV, List.range_succ]
end Go.Proofs.YtadinjaocnlglaaGreatDoor
namespace Go.Proofs.YtadinjaocnlglaaGreatDoor
open Go.RowKit Go.Maps
set_option maxRecDepth 100000
set_option maxHeartbeats 4000000
structure Glb (kt : Nat → Int) (w : World) : Prop where
 gd : Gd kt w
 gr : Gr kt w
 ge : Ge w
theorem Glb.low {kt : Nat → Int} {base : Nat} {w w' : World} (h : Glb kt w) (h8 : 8 ≤ base) (hb : Below base w w') : Glb kt w' :=
  ⟨⟨fun j hj => (hb.cell (p := ⟨2, j, none⟩) (by show 2 < base; omega)).trans (h.gd.tab j hj), Nat.le_trans h.gd.one hb.size⟩,
   ⟨fun j hj => (hb.cell (p := ⟨3, j, none⟩) (by show 3 < base; omega)).trans (h.gr.ref j hj), fun j hj => (hb.cell (p := ⟨1, j, none⟩) (by show 1 < base; omega)).trans (h.gr.first j hj), Nat.le_trans h.gr.one hb.size⟩,
   ⟨(hb.cell (p := ⟨0, 0, none⟩) (by show 0 < base; omega)).trans h.ge.err⟩⟩
theorem Fr.low {S : Nat → Prop} {base : Nat} {w w' : World} (h : Fr S w w') (hS : ∀ j, S j → base ≤ j) (hb : base ≤ w.heap.size) : Below base w w' :=
 ⟨h.calm.1, h.calm.2.1, h.calm.2.2, h.size, fun k hk => h.old k (by omega) (fun hs => by have := hS k hs; omega)⟩
end Go.Proofs.YtadinjaocnlglaaGreatDoor
namespace Go.Proofs.YtadinjaocnlglaaGreatDoor
open Go.RowKit
set_option maxRecDepth 100000
set_option maxHeartbeats 4000000
theorem fld_appT {w : World} {B r k n : Nat} {ty : TypeId} {cs : Array Value} {v : Value} {H : Nat → ByteArray} (x : ByteArray) (hr : w.heap[r]? = some (.cells cs ty (0, 0))) (hty : ty ≠ 9) (ho : w.ownsRow B 9 1 v n (tV H n)) (hB : B ≤ w.heap.size) (hx : n ≤ 1000000) (hH : H n = x) :
  ∃ v' w2, (Builtin.append_ #[42, 42] 42 #[v, .slice (some ⟨w.heap.size, 0, none⟩) 1 1]).run Tryz.prog (w.alloc (.cells #[.string x] 9)) = .ok v' w2 ∧ (w2.setCell ⟨r, k, none⟩ v').ownsRow B 9 1 v' (n + 1) (tV H (n + 1)) ∧ w2.heap[r]? = some (.cells cs ty (0, 0)) ∧ (w2.setCell ⟨r, k, none⟩ v').heap[r]? = some (.cells (cs.setIfInBounds k v') ty (0, 0))
   ∧ (∀ j, j < w.heap.size → j ≠ r → v.ownBlock ≠ some j → (w2.setCell ⟨r, k, none⟩ v').heap[j]? = w.heap[j]?) ∧ (v'.ownBlock = v.ownBlock ∨ v'.ownBlock = some (w.heap.size + 1)) ∧ (B ≤ r → ∀ w0, Below B w0 w → Below B w0 (w2.setCell ⟨r, k, none⟩ v')) := by
 have hrl : r < w.heap.size := (Array.getElem?_eq_some_iff.1 hr).1
 have hra : (w.alloc (.cells #[.string x] 9)).heap[r]? = some (.cells cs ty (0, 0)) := by rw [heap_alloc_old _ _ hrl]; exact hr
 have hsz : (w.alloc (.cells #[.string x] 9)).heap.size = w.heap.size + 1 := by simp
 obtain ⟨v', w2, hrun, ho2, hg, hb⟩ := own_more ho hB hx x
 have hne : v.ownBlock ≠ some r := fun e => by
  obtain ⟨cur, hcur⟩ := own_type ho r e
  rw [hr] at hcur
  simp only [Option.some.injEq, Obj.cells.injEq] at hcur
  exact hty hcur.2.1
 have hr2 : w2.heap[r]? = some (.cells cs ty (0, 0)) := by
  rw [hg.block r (by omega) (fun e => hne e.symm)]; exact hra
 have hne' : v'.ownBlock ≠ some r := fun e => by
  rcases hb with h | h
  ·exact hne (h.symm.trans e)
  ·rw [h] at e; have := Option.some.inj e; omega
 refine ⟨v', w2, hrun, ?_, hr2, set_heap _ _ _ _ _ _ _ hr2, fun j hj h1 h2 => ?_, hb, fun hBr w0 hw0 => ?_⟩
 ·have e2 : tV (fun i => if i = n then x else H i) (n + 1) = tV H (n + 1) := by
   unfold tV
   apply List.map_congr_left
   intro a _
   by_cases ha : a = n
   ·subst ha; simp [hH]
   ·simp [ha]
  rw [e2] at ho2
  exact own_kept ho2 (fun y hy => set_other _ _ _ _ _ (fun e => hne' (by rw [← e]; exact hy)))
 ·rw [set_other _ _ _ _ _ h1, hg.block j (by omega) (fun e => h2 e.symm), heap_alloc_old _ _ hj]
 ·have h1 : Below B w0 (w.alloc (.cells #[.string x] 9)) := hw0.alloc hB _
  exact (h1.grown hg (by omega) (fun y hy => own_ge ho y hy)).setCell (p := ⟨r, k, none⟩) hBr _
structure HD where
 K : Nat
 M : Nat
 C : Nat
 V : Nat
 root : ByteArray
 vE : Value
 es : List (ByteArray × Nat)
 num : Nat
 vL : Value
 nl : Nat
 Lf : Nat → ByteArray
 first : Nat
 vB : Value
 nb : Nat
 Bk : Nat → ByteArray
def HD.cells (d : HD) : Array Value := #[.int .i64 d.K, .int .i64 d.M, .int .i64 d.C, .int .i64 d.V, .string d.root, d.vE, .int .i64 d.num, d.vL, .int .i64 d.first, d.vB]
structure HI (w0 : World) (c h : Nat) (st : RS) (d : HD) (w : World) : Prop where
 cur : CR c st w
 row : w.heap[h]? = some (.cells d.cells 174 (0, 0))
 oE : w.ownsRow w0.heap.size 70 2 d.vE d.es.length (enV d.es)
 oL : w.ownsRow w0.heap.size 9 1 d.vL d.nl (tV d.Lf d.nl)
 oB : w.ownsRow w0.heap.size 9 1 d.vB d.nb (tV d.Bk d.nb)
 ap : ∀ j, d.vL.ownBlock = some j → d.vB.ownBlock ≠ some j
 bel : Below w0.heap.size w0 w
 lc : w0.heap.size ≤ c
 lh : w0.heap.size ≤ h
theorem HI.go {w0 : World} {c h : Nat} {st st' : RS} {d : HD} {w w' : World} (H : HI w0 c h st d w) (hd : CDid c st' w w') : HI w0 c h st' d w' where
 cur := hd.1
 row := by rw [hd.2.old h (Array.getElem?_eq_some_iff.1 H.row).1 (row_ne H.row H.cur.row (by decide))]; exact H.row
 oE := own_kept H.oE (fun q hq => hd.2.old q (own_lt H.oE q hq) (fun e => by
  obtain ⟨cur, hc⟩ := own_type H.oE q hq
  exact row_ne hc H.cur.row (by decide) e))
 oL := own_kept H.oL (fun q hq => hd.2.old q (own_lt H.oL q hq) (fun e => by
  obtain ⟨cur, hc⟩ := own_type H.oL q hq
  exact row_ne hc H.cur.row (by decide) e))
 oB := own_kept H.oB (fun q hq => hd.2.old q (own_lt H.oB q hq) (fun e => by
  obtain ⟨cur, hc⟩ := own_type H.oB q hq
  exact row_ne hc H.cur.row (by decide) e))
 ap := H.ap
 bel := H.bel.trans (hd.2.low (fun j e => by rw [e]; exact H.lc) H.bel.size)
 lc := H.lc
 lh := H.lh
theorem HI.low {w0 : World} {c h : Nat} {st : RS} {d : HD} {w w' : World} (H : HI w0 c h st d w) (hb : Below w.heap.size w w') : HI w0 c h st d w' := H.go ⟨H.cur.below hb, Fr.below hb⟩
theorem HI.set {w0 : World} {c h : Nat} {st : RS} {d d' : HD} {w : World} (H : HI w0 c h st d w) (k : Nat) (v : Value) (hc : d'.cells = d.cells.setIfInBounds k v) (h2 : d'.es = d.es) (h3 : d'.vE = d.vE) (h4 : d'.vL = d.vL) (h5 : d'.nl = d.nl) (h6 : d'.Lf = d.Lf) (h7 : d'.vB = d.vB) (h8 : d'.nb = d.nb) (h9 : d'.Bk = d.Bk) : HI w0 c h st d' (w.setCell ⟨h, k, none⟩ v) where
 cur := ⟨by rw [set_other _ _ _ _ _ (row_ne H.cur.row H.row (by decide))]; exact H.cur.row, H.cur.nt, H.cur.small⟩
 row := by rw [set_heap _ _ _ _ _ _ _ H.row, hc]
 oE := by
  rw [h2, h3]
  exact own_kept H.oE (fun q hq => set_other _ _ _ _ _ (fun e => by
   obtain ⟨cur, hc⟩ := own_type H.oE q hq
   exact row_ne hc H.row (by decide) e))
 oL := by
  rw [h4, h5, h6]
  exact own_kept H.oL (fun q hq => set_other _ _ _ _ _ (fun e => by
   obtain ⟨cur, hc⟩ := own_type H.oL q hq
   exact row_ne hc H.row (by decide) e))
 oB := by
  rw [h7, h8, h9]
  exact own_kept H.oB (fun q hq => set_other _ _ _ _ _ (fun e => by
   obtain ⟨cur, hc⟩ := own_type H.oB q hq
   exact row_ne hc H.row (by decide) e))
 ap := by rw [h4, h7]; exact H.ap
 bel := H.bel.setCell (p := ⟨h, k, none⟩) H.lh _
 lc := H.lc
 lh := H.lh
theorem HI.ents {w0 : World} {c h : Nat} {st : RS} {d : HD} {w : World} (H : HI w0 c h st d w) (v : Value) (es : List (ByteArray × Nat)) (ho : w.ownsRow w0.heap.size 70 2 v es.length (enV es)) : HI w0 c h st { d with vE := v, es := es } (w.setCell ⟨h, 5, none⟩ v) where
 cur := ⟨by rw [set_other _ _ _ _ _ (row_ne H.cur.row H.row (by decide))]; exact H.cur.row, H.cur.nt, H.cur.small⟩
 row := set_heap _ _ _ _ _ _ _ H.row
 oE := own_kept ho (fun q hq => set_other _ _ _ _ _ (fun e => by
   obtain ⟨cur, hc⟩ := own_type ho q hq
   exact row_ne hc H.row (by decide) e))
 oL := own_kept H.oL (fun q hq => set_other _ _ _ _ _ (fun e => by
   obtain ⟨cur, hc⟩ := own_type H.oL q hq
   exact row_ne hc H.row (by decide) e))
 oB := own_kept H.oB (fun q hq => set_other _ _ _ _ _ (fun e => by
   obtain ⟨cur, hc⟩ := own_type H.oB q hq
   exact row_ne hc H.row (by decide) e))
 ap := H.ap
 bel := H.bel.setCell (p := ⟨h, 5, none⟩) H.lh _
 lc := H.lc
 lh := H.lh
theorem HI.leaf {w0 : World} {c h : Nat} {st : RS} {d : HD} {w : World} (H : HI w0 c h st d w) (x : ByteArray) (hl : d.nl ≤ 1000000) (hH : d.Lf d.nl = x) :
  ∃ v' w2, (Builtin.append_ #[42, 42] 42 #[d.vL, .slice (some ⟨w.heap.size, 0, none⟩) 1 1]).run Tryz.prog (w.alloc (.cells #[.string x] 9)) = .ok v' w2 ∧ HI w0 c h st { d with vL := v', nl := d.nl + 1 } (w2.setCell ⟨h, 7, none⟩ v') ∧ w2.heap[h]? = some (.cells d.cells 174 (0, 0)) := by
 obtain ⟨v', w2, hrun, ho, hr, hr2, hk, hb, hbel⟩ := fld_appT (k := 7) x H.row (by decide) H.oL H.bel.size hl hH
 refine ⟨v', w2, hrun, ⟨⟨?_, H.cur.nt, H.cur.small⟩, hr2, ?_, ho, ?_, ?_, hbel H.lh _ H.bel, H.lc, H.lh⟩, hr⟩
 ·rw [hk c (Array.getElem?_eq_some_iff.1 H.cur.row).1 (row_ne H.cur.row H.row (by decide)) (fun e => by
   obtain ⟨cur, hcur⟩ := own_type H.oL c e
   exact row_ne H.cur.row hcur (by decide) rfl)]
  exact H.cur.row
 ·refine own_kept H.oE (fun j hj => hk j (own_lt H.oE j hj) (fun e => ?_) (fun e => ?_))
  ·obtain ⟨cur, hcur⟩ := own_type H.oE j hj
   exact row_ne hcur H.row (by decide) e
  ·obtain ⟨cur, hcur⟩ := own_type H.oE j hj
   obtain ⟨cur2, hcur2⟩ := own_type H.oL j e
   exact row_ne hcur hcur2 (by decide) rfl
 ·refine own_kept H.oB (fun j hj => hk j (own_lt H.oB j hj) (fun e => ?_) (fun e => H.ap j e hj))
  obtain ⟨cur, hcur⟩ := own_type H.oB j hj
  exact row_ne hcur H.row (by decide) e
 ·intro j h1 h2
  rcases hb with e | e
  ·exact H.ap j (e.symm.trans h1) h2
  ·have := own_lt H.oB j h2
   have e' : v'.ownBlock = some j := h1
   rw [e] at e'
   have := Option.some.inj e'
   omega
theorem HI.block {w0 : World} {c h : Nat} {st : RS} {d : HD} {w : World} (H : HI w0 c h st d w) (x : ByteArray) (hl : d.nb ≤ 1000000) (hH : d.Bk d.nb = x) :
  ∃ v' w2, (Builtin.append_ #[42, 42] 42 #[d.vB, .slice (some ⟨w.heap.size, 0, none⟩) 1 1]).run Tryz.prog (w.alloc (.cells #[.string x] 9)) = .ok v' w2 ∧ HI w0 c h st { d with vB := v', nb := d.nb + 1 } (w2.setCell ⟨h, 9, none⟩ v') ∧ w2.heap[h]? = some (.cells d.cells 174 (0, 0)) := by
 obtain ⟨v', w2, hrun, ho, hr, hr2, hk, hb, hbel⟩ := fld_appT (k := 9) x H.row (by decide) H.oB H.bel.size hl hH
 refine ⟨v', w2, hrun, ⟨⟨?_, H.cur.nt, H.cur.small⟩, hr2, ?_, ?_, ho, ?_, hbel H.lh _ H.bel, H.lc, H.lh⟩, hr⟩
 ·rw [hk c (Array.getElem?_eq_some_iff.1 H.cur.row).1 (row_ne H.cur.row H.row (by decide)) (fun e => by
   obtain ⟨cur, hcur⟩ := own_type H.oB c e
   exact row_ne H.cur.row hcur (by decide) rfl)]
  exact H.cur.row
 ·refine own_kept H.oE (fun j hj => hk j (own_lt H.oE j hj) (fun e => ?_) (fun e => ?_))
  ·obtain ⟨cur, hcur⟩ := own_type H.oE j hj
   exact row_ne hcur H.row (by decide) e
  ·obtain ⟨cur, hcur⟩ := own_type H.oE j hj
   obtain ⟨cur2, hcur2⟩ := own_type H.oB j e
   exact row_ne hcur hcur2 (by decide) rfl
 ·refine own_kept H.oL (fun j hj => hk j (own_lt H.oL j hj) (fun e => ?_) (fun e => H.ap j hj e))
  obtain ⟨cur, hcur⟩ := own_type H.oL j hj
  exact row_ne hcur H.row (by decide) e
 ·intro j h1 h2
  rcases hb with e | e
  ·exact H.ap j h1 (e.symm.trans h2)
  ·have := own_lt H.oL j h1
   have e' : v'.ownBlock = some j := h2
   rw [e] at e'
   have := Option.some.inj e'
   omega
theorem HI.drew {w0 : World} {c h : Nat} {st : RS} {d : HD} {w : World} (H : HI w0 c h st d w) : HI w0 c h st d w.drew := H.low ((Below.refl _ _).drew)
theorem HI.drewN {w0 : World} {c h : Nat} {st : RS} {d : HD} {w : World} (H : HI w0 c h st d w) (n : Nat) : HI w0 c h st d (w.drewN n) := H.low (below_drewN (Below.refl _ _) _)
end Go.Proofs.YtadinjaocnlglaaGreatDoor
