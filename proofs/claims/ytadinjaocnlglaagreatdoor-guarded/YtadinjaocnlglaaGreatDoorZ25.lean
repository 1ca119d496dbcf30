/-
  The walk of layout.readBlocks.
  A whole volume, as data.
  The walk of layout.Read.
-/
import Derived.Test.YtadinjaocnlglaaGreatDoorZ24
import Derived.Test.YtadinjaocnlglaaGreatDoorZ15
namespace Go.Proofs.YtadinjaocnlglaaGreatDoor
open Go.RowKit
set_option maxRecDepth 100000
set_option maxHeartbeats 4000000
theorem rest_bytes (s : RS) (hw : s.wrong = false) (hn : s.next ≤ s.text.size) : s.bytes (s.text.size - s.next) = ({ s with field := s.next, next := s.text.size }, s.text.extract s.next s.text.size) := by
  unfold RS.bytes
  rw [hw]
  simp only [Bool.false_eq_true, if_false]
  rw [if_neg (by omega), show s.next + (s.text.size - s.next) = s.text.size by omega]
theorem rblk (r g B K M C V num cn first en size c : Nat) (aE : Option Addr) (kE : Nat) (es : List (ByteArray × Nat)) (root lst lv rest : ByteArray) (s : RS) (w : World) (h : RI r s w) (hw : s.wrong = false) (ht : s.text.size ≤ 60000)
    (hg : w.heap[g]? = some (.cells (volC root lst K M C V (.slice aE es.length kE) lv num 0 (.slice none 0 0)) 319 (0, 0))) (ho : w.ownsRow B 70 2 (.slice aE es.length kE) es.length (enV es)) (hl : es.length ≤ 16) (hsum : lenE es ≤ 4096)
    (hK : 1 ≤ K) (hKM : K + M ≤ 255) (hC : 1 ≤ C) (hC2 : C ≤ 64) (hV : 1 ≤ V) (hV2 : V ≤ 16) (hnum : num < V) (hcn : nst (K * C) (lenE es) * (K + M) = cn) (hcn2 : cn ≤ 512) (hfirst : num * cn / V = first) (hen : (num + 1) * cn / V = en) (hsize : (en - first) * C = size)
    (hrest : s.text.extract s.next s.text.size = rest) (hc0 : rest.size / C = c) :
    Calls Tryz.prog 251 #[.pointer (some ⟨r, 0, none⟩), .pointer (some ⟨g, 0, none⟩)] w fun e w' =>
      (size < rest.size ∧ ∃ q, e = .returned (.iface 305 (.pointer (some ⟨q, 0, none⟩))) ∧ w'.heap[q]? = some (.cells #[.int .i64 7, .int .i64 (s.next + size : Nat), .nilIface] 307 (0, 0)) ∧ Fr (fun j => j = r) w w')
      ∨ (rest.size ≤ size ∧ e = .returned .nilIface ∧ ∃ q, w.heap.size ≤ q ∧ w'.heap[g]? = some (.cells (volC root lst K M C V (.slice aE es.length kE) lv num first (.slice (some ⟨q, 0, none⟩) c c)) 319 (0, 0)) ∧ Rw w' q c 9 (tX (pc rest C)) ∧ w'.ownsRow B 70 2 (.slice aE es.length kE) es.length (enV es) ∧ Fr (fun j => j = r ∨ j = g) w w') := by
  have hgl : g < w.heap.size := (Array.getElem?_eq_some_iff.1 hg).1
  have hrl : r < w.heap.size := (Array.getElem?_eq_some_iff.1 h.row).1
  have hgr : g ≠ r := fun e => by have h1 := hg; rw [e, h.row] at h1; simp at h1
  have c2 : w.cell? ⟨g, 2, none⟩ = some (.int .i64 K) := cell_of_row _ _ _ _ 319 _ hg
  have c3 : w.cell? ⟨g, 3, none⟩ = some (.int .i64 M) := cell_of_row _ _ _ _ 319 _ hg
  have c4 : w.cell? ⟨g, 4, none⟩ = some (.int .i64 C) := cell_of_row _ _ _ _ 319 _ hg
  have c5 : w.cell? ⟨g, 5, none⟩ = some (.int .i64 V) := cell_of_row _ _ _ _ 319 _ hg
  obtain ⟨p, hp⟩ : ∃ p, w.heap.size = p := ⟨_, rfl⟩
  obtain ⟨W, hW⟩ : ∃ W, w.alloc (.cells #[.int .i64 K, .int .i64 M, .int .i64 C, .int .i64 V] 23) = W := ⟨_, rfl⟩
  have hbW : Below w.heap.size w W := by rw [← hW]; exact (Below.refl _ _).alloc (Nat.le_refl _) _
  have hpW : W.heap[p]? = some (.cells #[.int .i64 K, .int .i64 M, .int .i64 C, .int .i64 V] 23 (0, 0)) := by rw [← hW, ← hp]; exact heap_alloc_new _ _
  have HBW : Hid _ := hbW
  have HPW : Hid (w.heap.size = p) := hp
  have hpl : p < W.heap.size := (Array.getElem?_eq_some_iff.1 hpW).1
  have HPV : Hid (∀ X : World, Below W.heap.size W X → X.cell? ⟨p, 3, none⟩ = some (.int .i64 V)) := fun X hX => cell_of_row X p 3 #[.int .i64 K, .int .i64 M, .int .i64 C, .int .i64 V] 23 (0, 0) (by rw [hX.block p hpl]; exact hpW)
  have HPC : Hid (∀ X : World, X.heap[p]? = W.heap[p]? → X.cell? ⟨p, 2, none⟩ = some (.int .i64 C)) := fun X hX => cell_of_row X p 2 #[.int .i64 K, .int .i64 M, .int .i64 C, .int .i64 V] 23 (0, 0) (by rw [hX]; exact hpW)
  have hgW : W.heap[g]? = some (.cells (volC root lst K M C V (.slice aE es.length kE) lv num 0 (.slice none 0 0)) 319 (0, 0)) := by rw [hbW.block g hgl]; exact hg
  have HNUM : Hid (∀ X : World, Below W.heap.size W X → X.cell? ⟨g, 8, none⟩ = some (.int .i64 num)) := fun X hX => cell_of_row X g 8 (volC root lst K M C V (.slice aE es.length kE) lv num 0 (.slice none 0 0)) 319 (0, 0) (by rw [hX.block g (Nat.lt_of_lt_of_le hgl hbW.size)]; exact hgW)
  have H1 : Hid (∀ X : World, Below W.heap.size W X → Calls Tryz.prog 252 #[.pointer (some ⟨g, 0, none⟩)] X fun e w' => e = .returned (.int .i64 cn) ∧ Below X.heap.size X w') := fun X hX => by
    have hx : X.heap[g]? = some (.cells (volC root lst K M C V (.slice aE es.length kE) lv num 0 (.slice none 0 0)) 319 (0, 0)) := by rw [hX.block g (Nat.lt_of_lt_of_le hgl hbW.size)]; exact hgW
    rw [← hcn]
    exact hcount g B es.length kE K M C V aE es X (cell_of_row _ _ _ _ 319 _ hx) (cell_of_row _ _ _ _ 319 _ hx) (cell_of_row _ _ _ _ 319 _ hx) (cell_of_row _ _ _ _ 319 _ hx) (cell_of_row _ _ _ _ 319 _ hx) rfl (own_below (own_below ho hbW) hX) (fun i => Nat.le_trans (lenE_take_le _ i) (by omega)) (by omega) hK hKM hC hC2
  have H2 : Hid (∀ X : World, Calls Tryz.prog 185 #[.int .i64 V, .int .i64 cn, .int .i64 num] X fun e w' => e = .returned (.tuple #[.int .i64 first, .int .i64 en]) ∧ Below X.heap.size X w') := fun X => by
    refine (share_any V cn num X (by omega) (by omega) (by omega) (by omega)).mono ?_
    rintro e w' ⟨rfl, q, rfl⟩
    exact ⟨by rw [hfirst, hen], below_drewN (Below.refl _ _) _⟩
  have q5 := HPV.out W (Below.refl _ _)
  have q8 := HNUM.out W (Below.refl _ _)
  go_enter Tryz.func251, Tryz.ntmps251
  go_wp2_with fail
  try rw [hW]
  try rw [hp]
  clear hW hp c2 c3 c4 c5
  go_region_held3 (fun w2 => w2.cell? ⟨p, 3, none⟩ = some (.int .i64 V) ∧ w2.cell? ⟨g, 8, none⟩ = some (.int .i64 num)) (go_keep) (first | (go_at_call 252; refine Calls.mono (H1.out _ (by first | exact Below.refl _ _ | exact (Below.refl _ _).drew)) ?_; rintro e w1 ⟨rfl, hb1⟩; have hB1 : Below W.heap.size W w1 := (by first | exact hb1 | exact ((Below.refl _ _).drew).trans hb1); have q2 := HPV.out w1 hB1; have q3 := HNUM.out w1 hB1) | (go_at_call 185; refine Calls.mono (H2.out _) ?_; rintro e w2 ⟨rfl, hb2⟩; have hB2 : Below W.heap.size W w2 := (hB1.trans (hb2.mono hB1.size)); have u2 := HPV.out w2 hB2; have u3 := HNUM.out w2 hB2))
  have HB2 : Hid (Below w.heap.size w w2) := HBW.out.trans (hB2.mono HBW.out.size)
  have hI2 : RI r s w2 := h.low HB2.out
  have HPL : Hid _ := rplace r s w2 hI2
  have HRS : Hid (Calls Tryz.prog 292 #[.pointer (some ⟨r, 0, none⟩)] w2 fun e w' => e = .returned (.string rest) ∧ Fr (fun j => j = r) w2 w') := by
    refine Calls.mono (rrest r s w2 hI2) ?_
    rintro e w' ⟨rfl, hD⟩
    rw [rest_bytes s hw h.nt, hrest] at *
    exact ⟨rfl, hD.2⟩
  have hrz : rest.size ≤ 60000 := by rw [← hrest, ByteArray.size_extract]; omega
  have HC0 : Hid _ := hc0
  clear hc0
  have hfe : first ≤ en := by rw [← hfirst, ← hen]; exact Nat.div_le_div_right (Nat.mul_le_mul_right _ (by omega))
  have hec : en ≤ 512 := by rw [← hen]; exact Nat.le_trans (Nat.div_le_div_right (Nat.mul_le_mul (show num + 1 ≤ V by omega) hcn2)) (by rw [Nat.mul_div_cancel_left _ (by omega)]; exact Nat.le_refl _)
  have hsz : size ≤ 32768 := by rw [← hsize]; exact Nat.le_trans (Nat.mul_le_mul (show en - first ≤ 512 by omega) hC2) (by omega)
  have e3 : ((en : Int) - (first : Int)) * (C : Int) = ((size : Nat) : Int) := by rw [← hsize, show (en : Int) - (first : Int) = ((en - first : Nat) : Int) by omega]; simp
  have HW2 : Hid (W.heap.size ≤ w2.heap.size) := hB2.size
  have HPP : Hid (w2.heap[p]? = W.heap[p]?) := hB2.block p hpl
  have d2 := HPC.out w2 HPP.out
  have hnx : s.next ≤ 60000 := Nat.le_trans h.nt ht
  clear hb1 hb2 hB1 hB2 q2 q3 u2 u3 q5 q8 H1 H2 HNUM HPV hfirst hen hsize hcn hrest
  go_wp2_with fail
  refine Calls.mono HPL.out ?_
  rintro e w2' ⟨rfl, rfl⟩
  go_wp2_with fail
  refine Calls.mono HRS.out ?_
  rintro e w3 ⟨rfl, hF3⟩
  have HF3 : Hid _ := hF3
  clear hF3
  have hFw : Fr (fun j => j = r) w w3 := (Fr.below HB2.out).trans' HF3.out
  have hg3 : w3.heap[g]? = some (.cells (volC root lst K M C V (.slice aE es.length kE) lv num 0 (.slice none 0 0)) 319 (0, 0)) := by rw [hFw.old g hgl hgr]; exact hg
  have ho3 : w3.ownsRow B 70 2 (.slice aE es.length kE) es.length (enV es) := own_kept ho (fun q hq => hFw.old q (own_lt ho q hq) (fun e => by
    obtain ⟨cur, hc⟩ := own_type ho q hq
    have h2 := h.row
    rw [← e, hc] at h2; simp at h2))
  have HFW : Hid _ := hFw
  have HG3 : Hid _ := hg3
  have HO3 : Hid _ := ho3
  have hpr : p ≠ r := by rw [← HPW.out]; omega
  have hpg : p ≠ g := by rw [← HPW.out]; omega
  have HP3 : Hid (w3.heap[p]? = W.heap[p]?) := by show _ = _; rw [HF3.out.old p (Nat.lt_of_lt_of_le hpl HW2.out) hpr, HPP.out]
  clear d2 hFw hg3 ho3 h hg ho
  by_cases hbig : size < rest.size
  · have hbi : (size : Int) < (rest.size : Int) := by omega
    go_wp2_with fail
    refine Calls.mono (at_err 7 _ w3) ?_
    rintro e w4 ⟨q, rfl, hq, hB⟩
    have HQ : Hid _ := hq
    have HB4 : Hid _ := hB
    clear hq hB
    go_wp2_with fail
    go_ret
    exact .inl ⟨hbig, q, rfl, by rw [HQ.out]; simp, HFW.out.thenBelow HB4.out⟩
  · have hbi : ¬ (size : Int) < (rest.size : Int) := by omega
    have a9 : w3.cell? ⟨g, 9, none⟩ = some (.int .i64 0) := cell_of_row _ _ _ _ 319 _ HG3.out
    have b9 := frozen_of_row w3 g 9 _ 319 HG3.out
    obtain ⟨X, hX⟩ : ∃ X, w3.setCell ⟨g, 9, none⟩ (.int .i64 first) = X := ⟨_, rfl⟩
    have HGX : Hid (X.heap[g]? = some (.cells (volC root lst K M C V (.slice aE es.length kE) lv num first (.slice none 0 0)) 319 (0, 0))) := by show _ = _; rw [← hX]; exact set_heap _ _ _ _ _ _ _ HG3.out
    have dX : X.cell? ⟨p, 2, none⟩ = some (.int .i64 C) := HPC.out X (by rw [← hX, set_other _ _ _ _ _ hpg]; exact HP3.out)
    have HFX : Hid (Fr (fun j => j = r ∨ j = g) w X) := by show Fr _ _ _; rw [← hX]; exact (HFW.out.mono (fun j _ hj => .inl hj)).set (.inl (.inr rfl)) _ _
    have HOX : Hid (X.ownsRow B 70 2 (.slice aE es.length kE) es.length (enV es)) := by
      show World.ownsRow _ _ _ _ _ _ _
      rw [← hX]
      exact own_kept HO3.out (fun q hq => set_other _ _ _ _ _ (fun e => by
        obtain ⟨cur, hc⟩ := own_type HO3.out q hq
        rw [e, HG3.out] at hc; simp at hc))
    have HC : Hid _ := cut_gen rest C c X (by omega) (by omega) HC0.out
    go_wp2_with fail
    clear hX a9 b9
    refine Calls.mono HC.out ?_
    rintro e w5 ⟨rfl, hR, hB⟩
    have hg5 : w5.heap[g]? = _ := (hB.block g (Array.getElem?_eq_some_iff.1 HGX.out).1).trans HGX.out
    have a10 : w5.cell? ⟨g, 10, none⟩ = some (.slice none 0 0) := cell_of_row _ _ _ _ 319 _ hg5
    have b10 := frozen_of_row w5 g 10 _ 319 hg5
    have HG5 : Hid _ := hg5
    have HB5 : Hid _ := hB
    have HR5 : Hid _ := hR
    clear hg5 hB hR dX
    go_wp2_with fail
    go_ret
    have hgX : g < X.heap.size := (Array.getElem?_eq_some_iff.1 HGX.out).1
    refine .inr ⟨by omega, rfl, X.heap.size, HFX.out.size, set_heap _ _ _ _ _ _ _ HG5.out, ?_, ?_, (HFX.out.thenBelow HB5.out).set (.inl (.inr rfl)) _ _⟩
    · show (World.heap _)[X.heap.size]? = _
      rw [set_other _ _ _ _ _ (by omega)]
      exact HR5.out
    · exact own_kept (own_below HOX.out HB5.out) (fun q hq => set_other _ _ _ _ _ (fun e => by
        obtain ⟨cur, hc⟩ := own_type (own_below HOX.out HB5.out) q hq
        rw [e, HG5.out] at hc; simp at hc))
end Go.Proofs.YtadinjaocnlglaaGreatDoor
namespace Go.Proofs.YtadinjaocnlglaaGreatDoor
open Go.RowKit
set_option maxRecDepth 100000
set_option maxHeartbeats 1000000
theorem bytes_sz {s : RS} {n : Nat} (h : (s.bytes n).1.wrong = false) : (s.bytes n).2.size = n := by
  have hw := bytes_ok h
  unfold RS.bytes at h ⊢
  rw [hw] at h ⊢
  simp only [Bool.false_eq_true, if_false] at h ⊢
  split at h
  · cases h
  · rename_i h2
    rw [if_neg h2]
    show (s.text.extract s.next (s.next + n)).size = n
    rw [ByteArray.size_extract]
    omega
theorem refuse_adv {s s' : RS} (h : Adv s s') (b : Prop) [Decidable b] : Adv s (if b then s'.refuse else s') := by
  split
  · exact h
  · exact h
theorem told_adv (s : RS) : Adv s s.told.st := by
  have h1 : Adv s ((s.word ⟨#[86, 79, 76, 49]⟩).bytes 32).1 := (word_adv s _).trans (bytes_adv _ _)
  have h2 := h1.trans (list_adv _)
  have h3 := h2.trans (num_adv _ 0 ((((s.word ⟨#[86, 79, 76, 49]⟩).bytes 32).1.list.V : Int) - 1))
  unfold RS.told
  simp only []
  split
  · exact h3
  · exact (refuse_adv h3 _).trans (bytes_adv _ _)
theorem told_lst (s : RS) : s.told.lst.size ≤ s.text.size := by
  have h1 : Adv s ((s.word ⟨#[86, 79, 76, 49]⟩).bytes 32).1 := (word_adv s _).trans (bytes_adv _ _)
  have h2 := h1.trans (list_adv _)
  unfold RS.told
  simp only []
  split <;> (show (ByteArray.extract _ _ _).size ≤ _; rw [ByteArray.size_extract, h2.1]; omega)
theorem told_len (s : RS) : s.told.L.es.length ≤ 16 ∧ lenE s.told.L.es ≤ 4096 := by
  unfold RS.told
  simp only []
  split <;> exact ⟨list_len _, list_sum _⟩
theorem lt_pred (a b : Nat) (h : (a : Int) ≤ (b : Int) - 1) : a < b := by omega
structure Told1 (T : TT) : Prop where
  k1 : 1 ≤ T.L.K
  km : T.L.K + T.L.M ≤ 255
  c1 : 1 ≤ T.L.C
  c64 : T.L.C ≤ 64
  v1 : 1 ≤ T.L.V
  v16 : T.L.V ≤ 16
  num : T.num < T.L.V
  cnt : T.L.cnt ≤ 512
  lv : T.lv.size = T.L.cnt * 32
theorem told_ok {s : RS} (h : s.told.st.wrong = false) : Told1 s.told := by
  unfold RS.told at h ⊢
  simp only [] at h ⊢
  split at h
  · rename_i hw
    have hw' : (((s.word ⟨#[86, 79, 76, 49]⟩).bytes 32).1.list.st.num 0 ((((s.word ⟨#[86, 79, 76, 49]⟩).bytes 32).1.list.V : Int) - 1)).1.wrong = false := h
    rw [hw] at hw'; cases hw'
  · rename_i hw
    rw [if_neg hw]
    have hw0 : (((s.word ⟨#[86, 79, 76, 49]⟩).bytes 32).1.list.st.num 0 ((((s.word ⟨#[86, 79, 76, 49]⟩).bytes 32).1.list.V : Int) - 1)).1.wrong = false := by simpa using hw
    have h1 := num_ok hw0
    have h2 := list_ok h1.1
    have h3 := bytes_ok h
    have h4 := bytes_sz h
    have h5 : ((s.word ⟨#[86, 79, 76, 49]⟩).bytes 32).1.list.cnt ≤ 512 := by
      by_cases hc : 512 < ((s.word ⟨#[86, 79, 76, 49]⟩).bytes 32).1.list.cnt
      · rw [if_pos hc] at h3; cases h3
      · omega
    exact ⟨h2.2.1, h2.2.2.1, h2.2.2.2.1, h2.2.2.2.2.1, h2.2.2.2.2.2.1, h2.2.2.2.2.2.2, lt_pred _ _ h1.2.2, h5, h4⟩
/-- the Reader at a text's start -/
def RS.on (t : ByteArray) : RS := ⟨t, 0, 0, false⟩
def tTold (t : ByteArray) : ByteArray := t.extract 0 (RS.on t).told.st.next
def tCk (t : ByteArray) : RS × ByteArray := (RS.on t).told.st.bytes 32
def tRest (t : ByteArray) : ByteArray := t.extract (tCk t).1.next t.size
def TT.first (T : TT) : Nat := T.num * T.L.cnt / T.L.V
def TT.size (T : TT) : Nat := ((T.num + 1) * T.L.cnt / T.L.V - T.first) * T.L.C
/-- which refusal a volume's text brings, if any -/
def rdE (kt : Nat → Int) (t : ByteArray) : Option (Nat × Nat) :=
  if 60000 < t.size then some (4, t.size)
  else if (tCk t).1.wrong then some (7, (tCk t).1.field)
  else if (tCk t).2 = ofT kt (⟨#[3]⟩ ++ tTold t) then
    if (RS.on t).told.root = rootT (ofT kt) (RS.on t).told.lst (RS.on t).told.L.cnt (pc (RS.on t).told.lv 32) then
      if (RS.on t).told.size < (tRest t).size then some (7, (tCk t).1.next + (RS.on t).told.size) else none
    else some (9, 4)
  else some (8, (RS.on t).told.st.next)
theorem ck_ok {t : ByteArray} (h : (tCk t).1.wrong = false) : Told1 (RS.on t).told := told_ok (bytes_ok h)
theorem ck_text (t : ByteArray) : (tCk t).1.text = t := ((told_adv (RS.on t)).trans (bytes_adv _ _)).1
end Go.Proofs.YtadinjaocnlglaaGreatDoor
namespace Go.Proofs.YtadinjaocnlglaaGreatDoor
open Go.RowKit
set_option maxRecDepth 100000
set_option maxHeartbeats 4000000
/-- a Volume as it lies in memory -/
def VolAt (T : TT) (rest : ByteArray) (B g : Nat) (w : World) : Prop := ∃ aE kE q, w.heap[g]? = some (.cells (volC T.root T.lst T.L.K T.L.M T.L.C T.L.V (.slice aE T.L.es.length kE) T.lv T.num T.first (.slice (some ⟨q, 0, none⟩) (rest.size / T.L.C) (rest.size / T.L.C))) 319 (0, 0)) ∧ B ≤ g ∧ B ≤ q ∧ Rw w q (rest.size / T.L.C) 9 (tX (pc rest T.L.C)) ∧ w.ownsRow B 70 2 (.slice aE T.L.es.length kE) T.L.es.length (enV T.L.es)
def RdErr (k p : Nat) (e : Ending) (w : World) : Prop := ∃ q, e = .returned (.tuple #[.pointer none, .iface 305 (.pointer (some ⟨q, 0, none⟩))]) ∧ w.heap[q]? = some (.cells #[.int .i64 k, .int .i64 p, .nilIface] 307 (0, 0))
def RdDid (kt : Nat → Int) (t : ByteArray) (w : World) (e : Ending) (w' : World) : Prop := Below w.heap.size w w' ∧ (∀ k p, rdE kt t = some (k, p) → RdErr k p e w') ∧ (rdE kt t = none → ∃ g, e = .returned (.tuple #[.pointer (some ⟨g, 0, none⟩), .nilIface]) ∧ VolAt (RS.on t).told (tRest t) w.heap.size g w')
theorem RdDid.bad {kt : Nat → Int} {t : ByteArray} {w w' : World} {k p q : Nat} (h : rdE kt t = some (k, p)) (hb : Below w.heap.size w w') (hq : w'.heap[q]? = some (.cells #[.int .i64 k, .int .i64 p, .nilIface] 307 (0, 0))) : RdDid kt t w (.returned (.tuple #[.pointer none, .iface 305 (.pointer (some ⟨q, 0, none⟩))])) w' :=
  ⟨hb, fun k' p' h' => by rw [h] at h'; cases h'; exact ⟨q, rfl, hq⟩, fun h' => by rw [h] at h'; cases h'⟩
theorem RdDid.good {kt : Nat → Int} {t : ByteArray} {w w' : World} {g : Nat} (h : rdE kt t = none) (hb : Below w.heap.size w w') (hv : VolAt (RS.on t).told (tRest t) w.heap.size g w') : RdDid kt t w (.returned (.tuple #[.pointer (some ⟨g, 0, none⟩), .nilIface])) w' :=
  ⟨hb, fun k p h' => (by rw [h] at h'; cases h'), fun _ => ⟨g, rfl, hv⟩⟩
theorem texts_ne {a b : ByteArray} (h : a ≠ b) : (a.toList == b.toList) = false := by
  rw [beq_eq_false_iff_ne]
  intro e
  exact h (ByteArray.ext (by rw [ByteArray.toList_eq, ByteArray.toList_eq] at e; exact Array.toList_inj.1 e))
theorem texts_eq {a b : ByteArray} (h : a = b) : (a.toList == b.toList) = true := by subst h; simp
/-- between the calls of Read -/
structure RdSt (w : World) (r g : Nat) (T : TT) (aE : Option Addr) (kE : Nat) (st : RS) (X : World) : Prop where
  vol : X.heap[g]? = some (.cells (volC T.root T.lst T.L.K T.L.M T.L.C T.L.V (.slice aE T.L.es.length kE) T.lv T.num 0 (.slice none 0 0)) 319 (0, 0))
  own : X.ownsRow w.heap.size 70 2 (.slice aE T.L.es.length kE) T.L.es.length (enV T.L.es)
  fr : Fr (fun j => j = r) w X
  ri : RI r st X
theorem RdSt.next {w : World} {r g : Nat} {T : TT} {aE : Option Addr} {kE : Nat} {st st' : RS} {X Y : World} (h : RdSt w r g T aE kE st X) (hd : RDid r st' X Y) : RdSt w r g T aE kE st' Y where
  vol := by rw [hd.2.old g (Array.getElem?_eq_some_iff.1 h.vol).1 (fun e => by have h1 := h.vol; rw [e, h.ri.row] at h1; simp at h1)]; exact h.vol
  own := own_kept h.own (fun q hq => hd.2.old q (own_lt h.own q hq) (fun e => by
    obtain ⟨cur, hc⟩ := own_type h.own q hq
    have h2 := h.ri.row
    rw [← e, hc] at h2; simp at h2))
  fr := h.fr.trans' hd.2
  ri := hd.1
theorem RdSt.low {w : World} {r g : Nat} {T : TT} {aE : Option Addr} {kE : Nat} {st : RS} {X Y : World} (h : RdSt w r g T aE kE st X) (hb : Below X.heap.size X Y) : RdSt w r g T aE kE st Y := h.next (RDid.same h.ri hb)
theorem lread (kt : Nat → Int) (t : ByteArray) (w : World) (hG : Gd kt w) (ht : t.size ≤ 140737488351232) : Calls Tryz.prog 205 #[.string t] w fun e w' => RdDid kt t w e w' := by
  have HG : Hid _ := hG
  clear hG
  by_cases hbig : 60000 < t.size
  · have hE : rdE kt t = some (4, t.size) := by unfold rdE; rw [if_pos hbig]
    have HE : Hid _ := hE
    clear hE
    have hbi : (60000 : Int) < (t.size : Int) := by omega
    go_enter Tryz.func205, Tryz.ntmps205
    go_wp2_with fail
    refine Calls.mono (at_err 4 _ w) ?_
    rintro e w1 ⟨q, rfl, hq, hB⟩
    have HQ : Hid _ := hq
    have HB : Hid _ := hB
    clear hq hB
    go_wp2_with fail
    go_ret2
    exact RdDid.bad HE.out HB.out HQ.out
  · have hbi : ¬ (60000 : Int) < (t.size : Int) := by omega
    obtain ⟨T, hT⟩ : ∃ T, (RS.on t).told = T := ⟨_, rfl⟩
    obtain ⟨ck, hck⟩ : ∃ x, (tCk t).2 = x := ⟨_, rfl⟩
    obtain ⟨s5, hs5⟩ : ∃ x, (tCk t).1 = x := ⟨_, rfl⟩
    obtain ⟨td, htd⟩ : ∃ x, tTold t = x := ⟨_, rfl⟩
    have hk : T.st.bytes 32 = (s5, ck) := by rw [← hT, ← hs5, ← hck]; rfl
    have htx : T.st.text = t := by rw [← hT]; exact (told_adv (RS.on t)).1
    have htd' : T.st.text.extract 0 T.st.next = td := by rw [htx, ← htd, ← hT]; rfl
    have htds : td.size ≤ 60000 := by rw [← htd', ByteArray.size_extract, htx]; omega
    have hlsz : T.lst.size ≤ 60000 := by have h1 := told_lst (RS.on t); rw [hT] at h1; have h2 : (RS.on t).text.size = t.size := rfl; omega
    have HE : Hid (rdE kt t = if s5.wrong then some (7, s5.field) else if ck = ofT kt (⟨#[3]⟩ ++ td) then (if T.root = rootT (ofT kt) T.lst T.L.cnt (pc T.lv 32) then (if T.size < (tRest t).size then some (7, s5.next + T.size) else none) else some (9, 4)) else some (8, T.st.next)) := by
      show _ = _
      unfold rdE
      rw [if_neg hbig, hs5, hck, htd, hT]
    have HL : Hid (s5.wrong = false → Told1 T) := fun h => by rw [← hT]; exact ck_ok (by rw [hs5]; exact h)
    have HLE : Hid (T.L.es.length ≤ 16 ∧ lenE T.L.es ≤ 4096) := by rw [← hT]; exact told_len _
    have HS5 : Hid ((tCk t).1 = s5) := hs5
    have HTX : Hid (s5.text = t) := by rw [← hs5]; exact ck_text t
    go_enter Tryz.func205, Tryz.ntmps205
    go_wp2_with fail
    refine Calls.mono (rnew t w (by omega)) ?_
    rintro e w1 ⟨r, rfl, hr, hI, hB⟩
    have HR0 : Hid (w.heap.size ≤ r) := hr
    have HI1 : Hid (RI r (RS.on t) w1) := hI
    have HB1 : Hid _ := hB
    clear hr hI hB
    go_wp2_with fail
    refine Calls.mono (rtold r (RS.on t) w1 HI1.out) ?_
    rintro e w2 ⟨g, vE, rfl, hg, hV, hO, hD⟩
    obtain ⟨aE, kE, rfl⟩ := own_shape hO
    rw [hT] at hV hO hD
    have HGG : Hid (w.heap.size ≤ g) := Nat.le_trans HB1.out.size hg
    have H2 : Hid (RdSt w r g T aE kE T.st w2) := ⟨hV, own_base hO HB1.out.size, (Fr.below HB1.out).trans' hD.2, hD.1⟩
    clear hg hV hO hD
    have HS : Hid _ := rsince r T.st 0 w2 H2.out.ri (Nat.zero_le _)
    rw [htd'] at HS
    go_wp2_with fail
    refine Calls.mono HS.out ?_
    rintro e w3 ⟨rfl, hB⟩
    have H3 : Hid _ := H2.out.low hB
    clear hB H2 HS
    have HPL : Hid _ := rplace r T.st w3 H3.out.ri
    go_wp2_with fail
    refine Calls.mono HPL.out ?_
    rintro e w3 ⟨rfl, rfl⟩
    have HBY : Hid _ := rbytes r T.st 32 w3 H3.out.ri (by omega)
    rw [hk] at HBY
    go_wp2_with fail
    refine Calls.mono HBY.out ?_
    rintro e w4 ⟨rfl, hD⟩
    have H4 : Hid _ := H3.out.next hD
    clear hD H3 HPL HBY
    have HW : Hid _ := rwrong r s5 w4 H4.out.ri
    go_wp2_with fail
    refine Calls.mono HW.out ?_
    rintro e w5 ⟨rfl, hB⟩
    have H5 : Hid _ := H4.out.low hB
    have HZ : Hid (∀ X, Fr (fun j => j = r) w X → Below w.heap.size w X) := fun X hX => Fr.toBelow (hX.mono (fun j hj e => by have h1 := HR0.out; have e' : j = r := e; omega))
    clear hB H4 HW hck hs5 htd hk htd'
    cases hwr : s5.wrong with
    | true =>
      go_wp2_with fail
      refine Calls.mono (at_err 7 _ w5) ?_
      rintro e w6 ⟨q, rfl, hq, hB⟩
      have HQ : Hid _ := hq
      have HB : Hid _ := hB
      clear hq hB
      go_wp2_with fail
      go_ret2
      exact RdDid.bad (by rw [HE.out, if_pos hwr]) ((HZ.out _ H5.out.fr).trans (HB.out.mono H5.out.fr.size)) HQ.out
    | false =>
      have HL1 : Hid _ := HL.out hwr
      have HE2 : Hid _ := HE.out
      rw [hwr, if_neg (by simp)] at HE2
      clear HE HL
      have hgd : Gd kt w5 := HG.out.below (HZ.out _ H5.out.fr)
      have HDG : Hid _ := of_any kt (⟨#[3]⟩ ++ td) w5 (by rw [ByteArray.size_append]; have : (⟨#[3]⟩ : ByteArray).size = 1 := rfl; omega) hgd.tab hgd.one
      obtain ⟨dg, hdg⟩ : ∃ x, ofT kt (⟨#[3]⟩ ++ td) = x := ⟨_, rfl⟩
      rw [hdg] at HDG HE2
      clear hgd hdg
      go_wp2_with fail
      refine Calls.mono HDG.out ?_
      rintro e w6 ⟨rfl, hB⟩
      have H6 : Hid _ := H5.out.low hB
      clear hB HDG H5
      by_cases hcd : ck = dg
      · rw [if_pos hcd] at HE2
        have hcq := texts_eq hcd
        clear hcd
        have H6B : Hid (Below w.heap.size w w6) := HZ.out _ H6.out.fr
        have hvl : T.lv.size = T.L.cnt * 32 := HL1.out.lv
        have hcnt : T.L.cnt ≤ 512 := HL1.out.cnt
        have hgl6 : g < w6.heap.size := (Array.getElem?_eq_some_iff.1 H6.out.vol).1
        have HC1 : Hid (∀ X : World, Below w6.heap.size w6 X → Calls Tryz.prog 203 #[.string T.lv, .int .i64 32] X fun e w' => e = .returned (.slice (some ⟨X.heap.size, 0, none⟩) T.L.cnt T.L.cnt) ∧ Rw w' X.heap.size T.L.cnt 9 (tX (pc T.lv 32)) ∧ Below X.heap.size X w') := fun X _ => cut_any T.lv 32 T.L.cnt X (by omega) (by omega) (by omega) hvl
        obtain ⟨rt, hrt⟩ : ∃ x, rootT (ofT kt) T.lst T.L.cnt (pc T.lv 32) = x := ⟨_, rfl⟩
        rw [hrt] at HE2
        have HC2 : Hid (∀ (X : World) (b : Nat), Below w6.heap.size w6 X → Rw X b T.L.cnt 9 (tX (pc T.lv 32)) → Calls Tryz.prog 182 #[.string T.lst, .slice (some ⟨b, 0, none⟩) T.L.cnt T.L.cnt] X fun e w' => e = .returned (.string rt) ∧ Below X.heap.size X w') := fun X b hX hR => by
          rw [← hrt]
          exact rootOf_any kt T.lst (pc T.lv 32) b T.L.cnt T.L.cnt X (by omega) (by omega) (fun i hi => by rw [pc_size T.lv 32 T.L.cnt i hvl hi]; exact Nat.le_refl _) (HG.out.below (H6B.out.trans (hX.mono H6B.out.size))) (Array.getElem?_eq_some_iff.1 hR).1 (fun i hi => hR.cell i hi)
        have HV : Hid (∀ X : World, Below w6.heap.size w6 X → X.cell? ⟨g, 0, none⟩ = some (.string T.root) ∧ X.cell? ⟨g, 1, none⟩ = some (.string T.lst) ∧ X.cell? ⟨g, 7, none⟩ = some (.string T.lv)) := fun X hX => by
          have h1 : X.heap[g]? = some (.cells (volC T.root T.lst T.L.K T.L.M T.L.C T.L.V (.slice aE T.L.es.length kE) T.lv T.num 0 (.slice none 0 0)) 319 (0, 0)) := by rw [hX.block g hgl6]; exact H6.out.vol
          exact ⟨cell_of_row _ _ _ _ 319 _ h1, cell_of_row _ _ _ _ 319 _ h1, cell_of_row _ _ _ _ 319 _ h1⟩
        obtain ⟨v0, v1, v7⟩ := HV.out w6 (Below.refl _ _)
        clear hrt hvl
        go_wp2_with fail
        go_region_held3 (fun w2 => w2.cell? ⟨g, 0, none⟩ = some (.string T.root) ∧ w2.cell? ⟨g, 1, none⟩ = some (.string T.lst) ∧ w2.cell? ⟨g, 7, none⟩ = some (.string T.lv)) (go_keep) (first | (go_at_call 203; refine Calls.mono (HC1.out _ (by first | exact Below.refl _ _ | exact (Below.refl _ _).drew)) ?_; rintro e w7 ⟨rfl, hR7, hb7⟩; have hB7 : Below w6.heap.size w6 w7 := (by first | exact hb7 | exact ((Below.refl _ _).drew).trans hb7); obtain ⟨x0, x1, x7⟩ := HV.out w7 hB7) | (go_at_call 182; refine Calls.mono (HC2.out _ _ hB7 hR7) ?_; rintro e w8 ⟨rfl, hb8⟩; have hB8 : Below w6.heap.size w6 w8 := (hB7.trans (hb8.mono hB7.size)); obtain ⟨y0, y1, y7⟩ := HV.out w8 hB8))
        have H8 : Hid _ := H6.out.low hB8
        clear hR7 hb7 hB7 x0 x1 x7 hb8 hB8 y0 y1 y7 v0 v1 v7 H6
        by_cases hrr : T.root = rt
        · rw [if_pos hrr] at HE2
          have hrq : (!(T.root.toList == rt.toList)) = false := by rw [texts_eq hrr]; rfl
          rw [hrq]
          clear hrq
          have HT1 := HL1.out
          have HRB : Hid _ := rblk r g w.heap.size T.L.K T.L.M T.L.C T.L.V T.num T.L.cnt T.first ((T.num + 1) * T.L.cnt / T.L.V) T.size ((tRest t).size / T.L.C) aE kE T.L.es T.root T.lst T.lv (tRest t) s5 w8 H8.out.ri hwr (by rw [HTX.out]; omega) H8.out.vol H8.out.own HLE.out.1 HLE.out.2 HT1.k1 HT1.km HT1.c1 HT1.c64 HT1.v1 HT1.v16 HT1.num rfl HT1.cnt rfl rfl rfl (by rw [HTX.out]; rw [← HS5.out]; rfl) rfl
          clear HT1
          go_wp2_with fail
          refine Calls.mono HRB.out ?_
          rintro e w9 (⟨hlt, q, rfl, hq, hF⟩ | ⟨hle, rfl, q, hq, hg9, hR9, hO9, hF⟩)
          · rw [if_pos hlt] at HE2
            have HQ : Hid _ := hq
            have HF9 : Hid _ := H8.out.fr.trans' hF
            clear hq hF
            go_wp2_with fail
            go_ret2
            exact RdDid.bad HE2.out (HZ.out _ HF9.out) HQ.out
          · rw [if_neg (by omega)] at HE2
            have HF9 : Hid (Below w.heap.size w w9) := Fr.toBelow ((H8.out.fr.trans (S1 := fun j => j = r ∨ j = g) (fun j hj => by
              rcases hj with e | e
              · exact .inl e
              · exact .inr (by have := HGG.out; omega)) hF).mono (fun j hj e => by have h1 := HR0.out; have e' : j = r := e; omega))
            have HV9 : Hid (VolAt T (tRest t) w.heap.size g w9) := ⟨aE, kE, q, hg9, HGG.out, Nat.le_trans H8.out.fr.size hq, hR9, hO9⟩
            clear hq hF hg9 hR9 hO9
            go_wp2_with fail
            go_ret2
            exact RdDid.good HE2.out HF9.out (by rw [hT]; exact HV9.out)
        · rw [if_neg hrr] at HE2
          have hrq : (!(T.root.toList == rt.toList)) = true := by rw [texts_ne hrr]; rfl
          rw [hrq]
          clear hrq
          go_wp2_with fail
          refine Calls.mono (at_err 9 4 w8) ?_
          rintro e w9 ⟨q, rfl, hq, hB⟩
          have HQ : Hid _ := hq
          have HB : Hid _ := hB
          clear hq hB
          go_wp2_with fail
          go_ret2
          exact RdDid.bad HE2.out ((HZ.out _ H8.out.fr).trans (HB.out.mono H8.out.fr.size)) HQ.out
      · rw [if_neg hcd] at HE2
        have hcq := texts_ne hcd
        go_wp2_with fail
        refine Calls.mono (at_err 8 _ w6) ?_
        rintro e w7 ⟨q, rfl, hq, hB⟩
        have HQ : Hid _ := hq
        have HB : Hid _ := hB
        clear hq hB
        go_wp2_with fail
        go_ret2
        exact RdDid.bad HE2.out ((HZ.out _ H6.out.fr).trans (HB.out.mono H6.out.fr.size)) HQ.out
end Go.Proofs.YtadinjaocnlglaaGreatDoor
