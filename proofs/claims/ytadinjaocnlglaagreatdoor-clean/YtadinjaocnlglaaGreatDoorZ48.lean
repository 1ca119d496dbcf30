/-
  The walks of vault.Parity where nothing is refused, of vault.Digest, and of first.
  A text taken out of a list; names that were read.
  The walk of vaultkeep.Clean.
-/
import Derived.Test.YtadinjaocnlglaaGreatDoorZ04
import Derived.Test.YtadinjaocnlglaaGreatDoorZ17
import Derived.Test.YtadinjaocnlglaaGreatDoorZ47
import Derived.Test.YtadinjaocnlglaaGreatDoorZ46
namespace Go.Proofs.YtadinjaocnlglaaGreatDoor
open Go.RowKit
set_option maxRecDepth 100000
set_option maxHeartbeats 1000000
theorem parity_ok (S : Nat → ByteArray) (k m c b cap : Nat) (w : World) (hk1 : 1 ≤ k) (hkm : k + m ≤ 255) (hc : c ≤ 140737488351232) (hS : ∀ i, i < k → (S i).size = c) (hb : b < w.heap.size) (hC : Cl w b k (tI S)) :
    Calls Tryz.prog 128 #[.int .i64 k, .int .i64 m, .slice (some ⟨b, 0, none⟩) k cap] w fun e w' => ∃ g, e = .returned (.tuple #[.slice (some ⟨g, 0, none⟩) m m, .nilIface]) ∧ w.heap.size ≤ g ∧ Rw w' g m 9 (tI (vl (fun i => i) (fun i => k + i) k c S)) ∧ Below w.heap.size w w' := by
  have HI : Hid _ := inner_ok S k m c b cap w hk1 hkm hc hS hb hC
  have HS : Hid _ := hS
  have HC : Hid _ := hC
  clear hS hC
  have hk255 : k ≤ 255 := by omega
  go_enter Tryz.func128, Tryz.ntmps128
  go_wp2_with (go_at_call 190; refine (checkParams_ok k m _ hk1 hkm).mono ?_; rintro e w' ⟨rfl, rfl⟩)
  go_loop [26] (fun iv => ∃ i : Nat, i ≤ k ∧ iv = .int .i64 i) (fun iv => k - (intOf iv).toNat)
  case atStart => exact ⟨0, by omega, rfl⟩
  case round =>
    obtain ⟨i, hi, rfl⟩ := hrel
    by_cases hlt : i < k
    · have c1 : w'.cell? ⟨b, i, none⟩ = some (.string (S i)) := HC.out i hlt
      have c2 : w'.cell? ⟨b, 0, none⟩ = some (.string (S 0)) := HC.out 0 (by omega)
      have hne : (((S i).size : Int) != ((S 0).size : Int)) = false := by rw [bne_eq_false_iff_eq, HS.out i hlt, HS.out 0 (by omega)]
      have hk0 : (0 : Int) < (k : Int) := by omega
      go_wp2
      go_round
      case rel => exact ⟨i + 1, by omega, by go_num⟩
      case measure => simp [intOf]; omega
    · have e : i = k := by omega
      subst e
      go_wp2_with fail
      refine Calls.mono HI.out ?_
      rintro e w4 ⟨g, rfl, hg, hR4, hB4⟩
      go_wp2
      go_ret2
      exact ⟨g, rfl, hg, hR4, hB4⟩
set_option maxHeartbeats 400000 in
theorem vparity_ok (S : Nat → ByteArray) (k m c b cap : Nat) (w : World) (hk1 : 1 ≤ k) (hkm : k + m ≤ 255) (hc : c ≤ 140737488351232) (hS : ∀ i, i < k → (S i).size = c) (hb : b < w.heap.size) (hC : Cl w b k (tI S)) :
    Calls Tryz.prog 83 #[.int .i64 k, .int .i64 m, .slice (some ⟨b, 0, none⟩) k cap] w fun e w' => ∃ g, e = .returned (.tuple #[.slice (some ⟨g, 0, none⟩) m m, .nilIface]) ∧ w.heap.size ≤ g ∧ Rw w' g m 9 (tI (vl (fun i => i) (fun i => k + i) k c S)) ∧ Below w.heap.size w w' := by
  have H : Hid _ := parity_ok S k m c b cap w hk1 hkm hc hS hb hC
  clear hS hC
  go_enter Tryz.func83, Tryz.ntmps83
  go_wp2_with fail
  refine Calls.mono H.out ?_
  rintro e w1 ⟨g, rfl, hg, hR, hB⟩
  go_wp2
  go_ret2
  exact ⟨g, rfl, hg, hR, hB⟩
theorem vdigest_any (kt : Nat → Int) (s : ByteArray) (w : World) (hs : s.size ≤ 140737488351232) (hT : Tab w 2 kt) (h3 : 4 ≤ w.heap.size) :
    Calls Tryz.prog 79 #[.string s] w fun e w' => e = .returned (.string (ofT kt s)) ∧ Below w.heap.size w w' := by
  have H : Hid _ := of_any kt s w hs hT h3
  clear hT
  go_enter Tryz.func79, Tryz.ntmps79
  go_wp2_with fail
  refine Calls.mono H.out ?_
  rintro e w1 ⟨rfl, hB⟩
  go_wp2
  go_ret
  exact ⟨rfl, hB⟩
theorem vdigest_empty (w : World) (hT : Tab w 2 kt) (h3 : 4 ≤ w.heap.size) :
    Calls Tryz.prog 79 #[.string ⟨#[]⟩] w fun e w' => e = .returned (.string dg0) ∧ Below w.heap.size w w' := by
  rw [← ofT_empty]; exact vdigest_any kt _ w (by decide) hT h3
def two : Nat → ByteArray
  | 0 => ⟨#[1]⟩
  | _ => ⟨#[3]⟩
def five : Nat → ByteArray := fun _ => ⟨#[5]⟩
theorem vl_two : vl (fun i => i) (fun i => 2 + i) 2 1 two 0 = ⟨#[5]⟩ := by kernel_rfl
set_option maxHeartbeats 1000000 in
theorem first_any (w : World) (hT : Tab w 2 kt) (h3 : 4 ≤ w.heap.size) :
    Calls Tryz.prog 43 #[] w fun e w' => e = .returned (.bool true) ∧ Below w.heap.size w w' := by
  have HT : Hid _ := hT
  clear hT
  go_enter Tryz.func43, Tryz.ntmps43
  go_wp2_with fail
  refine (vdigest_empty _ HT.out h3).mono ?_
  rintro e w1 ⟨rfl, hB1⟩
  go_wp2_with fail
  obtain ⟨w2, hw2⟩ : ∃ w2, w2 = (w1.alloc (Obj.cells #[Value.string { data := #[1] }, Value.string { data := #[3] }] 9)) := ⟨_, rfl⟩
  have hz2 : w2.heap.size = w1.heap.size + 1 := by rw [hw2]; simp
  have hB2 : Below w.heap.size w w2 := by rw [hw2]; exact hB1.alloc hB1.size _
  have hC2 : Cl w2 w1.heap.size 2 (tI two) := by
    intro i hi
    rw [hw2, cell_of_row _ w1.heap.size i _ 9 _ (heap_alloc_new w1 _)]
    match i, hi with
    | 0, _ => rfl
    | 1, _ => rfl
  rw [← hw2]
  clear hw2
  refine (vparity_ok two 2 1 1 w1.heap.size 2 w2 (by decide) (by decide) (by decide) (fun i hi => ?_) (by omega) hC2).mono ?_
  · match i, hi with
    | 0, _ => rfl
    | 1, _ => rfl
  rintro e w3 ⟨g, rfl, hg, hR, hB3⟩
  clear hC2
  go_wp2_with fail
  obtain ⟨w4, hw4⟩ : ∃ w4, w4 = (w3.alloc (Obj.cells #[Value.string { data := #[5] }] 9)) := ⟨_, rfl⟩
  have hB4 : Below w3.heap.size w3 w4 := by rw [hw4]; exact (Below.refl _ _).alloc (Nat.le_refl _) _
  have hC4 : Cl w4 w3.heap.size 1 (tI five) := by
    intro i hi
    rw [hw4, cell_of_row _ w3.heap.size i _ 9 _ (heap_alloc_new w3 _)]
    match i, hi with
    | 0, _ => rfl
  have hA4 : Cl w4 g 1 (tI (vl (fun i => i) (fun i => 2 + i) 2 1 two)) := fun i hi => (hR.below hB4 hR.lt).cell i hi
  rw [← hw4]
  clear hw4
  refine (same_any _ five 1 g 1 w3.heap.size 1 w4 (by decide) hA4 hC4 (fun i hi => ?_)).mono ?_
  · match i, hi with
    | 0, _ => exact vl_two
  rintro e w5 ⟨rfl, hB5⟩
  have hBz : Below w.heap.size w w5 := ((hB2.trans (hB3.mono hB2.size)).trans (hB4.mono (Nat.le_trans hB2.size hB3.size))).trans (hB5.mono (Nat.le_trans (Nat.le_trans hB2.size hB3.size) hB4.size))
  clear hB1 hB2 hB3 hB4 hB5 hC4 hA4 hR
  rw [show dg0 = ⟨#[227, 176, 196, 66, 152, 252, 28, 20, 154, 251, 244, 200, 153, 111, 185, 36, 39, 174, 65, 228, 100, 155, 147, 76, 164, 149, 153, 27, 120, 82, 184, 85]⟩ from rfl]
  go_wp2
  go_ret
  exact ⟨rfl, hBz⟩
end Go.Proofs.YtadinjaocnlglaaGreatDoor
namespace Go.Proofs.YtadinjaocnlglaaGreatDoor
open Go.RowKit
set_option maxRecDepth 100000
set_option maxHeartbeats 1000000
def movT (G : Nat → ByteArray) (p r : Nat) : List Value := (List.range (r - (p + 1))).map fun j => .string (G (p + 1 + j))
def delT (G : Nat → ByteArray) (p : Nat) : Nat → ByteArray := fun i => if i < p then G i else G (i + 1)
theorem movT_len (G : Nat → ByteArray) (p r : Nat) : (movT G p r).length = r - (p + 1) := by simp [movT]
theorem movT_get (G : Nat → ByteArray) (p r j : Nat) (h : j < r - (p + 1)) : (movT G p r)[j]? = some (.string (G (p + 1 + j))) := by simp [movT, h]
theorem movT_one (G : Nat → ByteArray) (p r : Nat) : ∀ u ∈ movT G p r, u.oneCell' = true := by
  intro u hu
  obtain ⟨i, _, rfl⟩ := List.mem_map.1 hu
  rfl
theorem tV_get (G : Nat → ByteArray) (r i : Nat) (h : i < r) : (tV G r)[i]? = some (.string (G i)) := by simp [tV, h]
theorem own_curT {w : World} {B n g cap : Nat} {G : Nat → ByteArray} (h : w.ownsRow B 9 1 (.slice (some ⟨g, 0, none⟩) n cap) n (tV G n)) : ∃ cur, w.heap[g]? = some (.cells cur 9 (0, 0)) ∧ B ≤ g ∧ n ≤ cap ∧ cap ≤ maxLen ∧ cur.size = cap * 1 ∧ ∀ i, i < n → cur[i]? = some (.string (G i)) := by
  rcases h.2 with ⟨h2, _⟩ | ⟨g', cap', cur, hv, hb, hh, hc1, hc2, hc3, hc4⟩
  · cases h2
  · cases hv
    refine ⟨cur, hh, hb, hc1, hc2, hc3, fun j hj => ?_⟩
    have := congrArg (fun l => l[j]?) hc4
    simp only [tV_get G n j hj] at this
    rw [← this, List.getElem?_take, if_pos (by omega)]
    simp
theorem own_delT {w : World} {B r g cap : Nat} {G : Nat → ByteArray} (h : w.ownsRow B 9 1 (.slice (some ⟨g, 0, none⟩) r cap) r (tV G r)) (p : Nat) (hp : p < r) :
    (w.setCells g p (movT G p r)).ownsRow B 9 1 (.slice (some ⟨g, 0, none⟩) (r - 1) cap) (r - 1) (tV (delT G p) (r - 1)) := by
  obtain ⟨cur, hh, hb, hc1, hc2, hc3, hc4⟩ := own_curT h
  obtain ⟨cur', h1, h2, h3⟩ := setCells_row g 9 (0, 0) (movT G p r) p w cur hh
  refine ⟨by rw [tV_len]; omega, .inr ⟨g, cap, cur', rfl, hb, h1, by omega, hc2, by omega, ?_⟩⟩
  apply List.ext_getElem?
  intro i
  by_cases hi : i < r - 1
  · rw [tV_get _ _ _ hi, List.getElem?_take, if_pos (by omega), Array.getElem?_toList, h3 i (by omega), movT_len]
    unfold delT
    by_cases e : i < p
    · rw [if_neg (by omega), if_pos e, hc4 i (by omega)]
    · rw [if_pos (by omega), if_neg e, movT_get _ _ _ _ (by omega), show p + 1 + (i - p) = i + 1 by omega]
  · rw [List.getElem?_take, if_neg (by omega), List.getElem?_eq_none (by rw [tV_len]; omega)]
/-- what is left holds all others -/
theorem del_mem {G : Nat → ByteArray} {r p : Nat} {x : ByteArray} (hp : p < r) (h : ∃ k, k < r ∧ G k = x) (hx : x ≠ G p) : ∃ k, k < r - 1 ∧ delT G p k = x := by
  obtain ⟨k, hk, e⟩ := h
  have hkp : k ≠ p := fun e' => hx (by rw [← e, e'])
  by_cases hlt : k < p
  · exact ⟨k, by omega, by unfold delT; rw [if_pos hlt]; exact e⟩
  · exact ⟨k - 1, by omega, by unfold delT; rw [if_neg (by omega), show k - 1 + 1 = k by omega]; exact e⟩
theorem ents_nm : ∀ (k : Nat) (s : RS) (nm : ByteArray) (left : Int) (acc : List (ByteArray × Nat)), (∀ x ∈ acc, x.1.size ≤ 255) → ∀ x ∈ (RS.ents k s nm left acc).2, x.1.size ≤ 255
  | 0, _, _, _, _, h => h
  | k + 1, s, nm, left, acc, h => by
    rw [RS.ents]
    refine ents_nm k _ _ _ _ (fun x hx => ?_)
    rcases List.mem_append.1 hx with hx | hx
    · exact h x hx
    · rw [List.mem_singleton] at hx
      subst hx
      show ((s.num 1 255).1.bytes (s.num 1 255).2).2.size ≤ 255
      have h1 : (s.num 1 255).2 ≤ 255 := num_hi s 1 255
      have h2 : ((s.num 1 255).1.bytes (s.num 1 255).2).2.size ≤ (s.num 1 255).2 := by
        unfold RS.bytes
        split
        · exact Nat.zero_le _
        · split
          · exact Nat.zero_le _
          · show (ByteArray.extract _ _ _).size ≤ _
            rw [ByteArray.size_extract]; omega
      omega
theorem told_nm (s : RS) : ∀ x ∈ s.told.L.es, x.1.size ≤ 255 := by
  have hl : ∀ r : RS, ∀ x ∈ r.list.es, x.1.size ≤ 255 := fun r => ents_nm _ _ _ _ _ (fun x hx => by cases hx)
  unfold RS.told
  simp only []
  split
  · exact hl _
  · exact hl _
theorem opn_un {kt : Nat → Int} {rt : ByteArray} {L : Nat → ByteArray} {n : Nat} {s : OS} {t0 : ByteArray} (h : Opn kt rt L n s t0) : s.un.length ≤ n := by
  have h1 := run_un _ _ _ _ h.2.1
  rw [texL_len] at h1
  have h2 : OS.new.un.length = 0 := rfl
  omega
end Go.Proofs.YtadinjaocnlglaaGreatDoor
namespace Go.Proofs.YtadinjaocnlglaaGreatDoor
open Go.RowKit
set_option maxRecDepth 100000
set_option maxHeartbeats 4000000
theorem RawT.below {w w' : World} {a : Option Addr} {n cap : Nat} {L : Nat → ByteArray} (h : RawT w a n cap L) (hb : Below w.heap.size w w') : RawT w' a n cap L := by
  rcases h with h | ⟨ad, rfl, hc⟩
  · exact .inl h
  · exact .inr ⟨ad, rfl, fun i hi => by
      obtain ⟨b, off, e, h1, h2⟩ := hc i hi
      exact ⟨b, off, e, Nat.lt_of_lt_of_le h1 hb.size, (hb.cell (p := ⟨b, off + i, none⟩) h1).trans h2⟩⟩
theorem low3 {w w2 w3 : World} {q f v : Nat} (h : Below w.heap.size w w2) (hF : Fr (fun j => j = q ∨ j = f ∨ j = v) w2 w3) (hq : w.heap.size ≤ q) (hf : w.heap.size ≤ f) (hv : w.heap.size ≤ v) : Below w.heap.size w w3 :=
  h.trans (hF.lowB w.heap.size h.size (fun j hj e => by rcases e with e | e | e <;> omega))
/-- while texts are looked for -/
def Lft (B g cap r : Nat) (G : Nat → ByteArray) (w : World) : Prop := w.ownsRow B 9 1 (.slice (some ⟨g, 0, none⟩) r cap) r (tV G r)
theorem clean_any (rt : ByteArray) (L : Nat → ByteArray) (a : Option Addr) (n cap : Nat) (w : World) (hG : Gd kt w) (hn : n * 16 ≤ 140737488351232) (hL : ∀ i, i < n → (L i).size ≤ 140737488351232) (hR : RawT w a n cap L) :
    Calls Tryz.prog 10 #[.slice a n cap, .string rt] w fun e w' => e = .returned (.bool true) ∧ Below w.heap.size w w' := by
  have HF : Hid _ := first_any w hG.tab hG.one
  have HG : Hid _ := hG
  have HL : Hid _ := hL
  have HR : Hid _ := hR
  have hw4 := hG.one
  clear hG hL hR
  go_enter Tryz.func10, Tryz.ntmps10
  go_wp2_with fail
  refine Calls.mono HF.out ?_
  rintro e w1 ⟨rfl, hb1⟩
  have HO : Hid _ := opened_any kt rt L a n cap w1 (HG.out.below hb1) hn HL.out (RawT.below HR.out hb1)
  have HB1 : Hid _ := hb1
  clear hb1
  go_wp2_with fail
  refine Calls.mono HO.out ?_
  rintro e w2 ⟨hB2, ⟨rfl, _⟩ | ⟨B, v, rfl, hBl, hBu, s, t0, k, g, p, q, f, un, hop, hr0, hBv, ⟨hBq, hBf⟩, hVL, hVS⟩⟩
  · have HB2 : Hid _ := HB1.out.trans (hB2.mono HB1.out.size)
    clear hB2
    go_wp2_with fail
    go_ret
    exact ⟨rfl, HB2.out⟩
  · have hB02 := HB1.out.trans (hB2.mono HB1.out.size)
    have hsz1 := HB1.out.size
    have hT : Told1 (tT t0) := ck_ok (rd_none hr0).2.1
    have hle := told_len (RS.on t0)
    have hun := opn_un hop
    have HW : Hid _ := kwhole_any kt B v k g p q f (tT t0) un s.un s.rd s.bl (fun _ => false) _ _ w2 hVL hVS hT hle (by omega) (HG.out.below hB02) hBu (by omega)
    have HVS : Hid _ := hVS
    have HB2 : Hid (Below w.heap.size w w2) := hB02
    have HOP : Hid _ := hop
    have HT : Hid _ := hT
    have HLE : Hid _ := hle
    have hqw : w.heap.size ≤ q := by omega
    have hfw : w.heap.size ≤ f := by omega
    have hvw : w.heap.size ≤ v := by omega
    clear hB2 hop hVL hVS hB02 hT hle hr0 hun
    go_wp2_with fail
    refine Calls.mono HW.out ?_
    rintro e w3 ⟨rfl, hVL3, ⟨zs3, bd3, hVS3⟩, hF3⟩
    have HB3 : Hid (Below w.heap.size w w3) := low3 HB2.out hF3 hqw hfw hvw
    cases hwb : wholeB kt (tT t0) s.un s.rd s.bl with
    | false =>
      clear hVL3 hVS3 hF3 hwb
      go_wp2_with fail
      go_ret
      exact ⟨rfl, HB3.out⟩
    | true =>
      obtain ⟨hnV, hn16, hall, Lb, hLb1, hLb2, hLb3, s', t', hop', hV', hall', hLb'⟩ := clean_plain HOP.out hwb
      have hn0 : 0 < n := by have := HT.out.v1; omega
      have HRP : Hid _ := vrepair_ok kt B v k g p q f (tT t0) un s.un s.rd s.bl _ zs3 bd3 w3 hVL3 hVS3 HT.out HLE.out (told_nm _) (HG.out.below HB3.out) (Nat.le_trans hBu hF3.size) (by omega) hall
      have HL1 : Hid _ := hLb1
      have HL2 : Hid _ := hLb2
      have HL3 : Hid _ := hLb3
      have HOP' : Hid _ := hop'
      have HA' : Hid _ := hall'
      have HL' : Hid _ := hLb'
      have HV' : Hid _ := hV'
      have HNV : Hid _ := hnV
      rw [← hnV] at HRP
      clear hVL3 hVS3 hF3 hwb hall hLb1 hLb2 hLb3 hop' hall' hLb' hV' hnV
      go_wp2_with fail
      refine Calls.mono HRP.out ?_
      rintro e w4 ⟨gv, rfl, hgv, hRw, hF4⟩
      have HB4 : Hid (Below w.heap.size w w4) := low3 HB3.out hF4 hqw hfw hvw
      have HRW : Hid (Rw w4 gv n 9 (tX Lb)) := hRw.to (fun j hj => by unfold tX; rw [HL1.out _ (fun st hst => by simp [dnS, hst]) j hj])
      obtain ⟨lv, w5, hr5, hcase, hb5⟩ := own_copy w4 a n cap L (RawT.below HR.out HB4.out) hn
      obtain ⟨gl, gc, rfl, hglB, hgl, _⟩ : ∃ gl gc, lv = .slice (some ⟨gl, 0, none⟩) n gc ∧ w4.heap.size ≤ gl ∧ gl < w5.heap.size ∧ Cl w5 gl n (tI L) := by
        rcases hcase with ⟨e, _⟩ | ⟨_, ho⟩
        · omega
        · exact own_row9 ho hn0
      have HLF : Hid (Lft w4.heap.size gl gc n L w5) := by
        rcases hcase with ⟨e, _⟩ | ⟨_, ho⟩
        · omega
        · exact ho
      have HRUN : Hid _ := hr5
      have HB5 : Hid _ := hb5
      clear hRw hF4 hgv hr5 hcase hb5 hgl
      go_wp2_with (at_builtin; refine wpList_app rfl (.tmp 47) (.tmp 48) 42 rfl _ _ _ (by simp [Act.eval]) (by simp [Act.eval]) _ HRUN.out ?_)
      have hgvl : gv < w4.heap.size := HRW.out.lt
      go_loopw [11, 10] (fun iv lv wr => ∃ (i r : Nat) (G : Nat → ByteArray), i ≤ n ∧ iv = .int .i64 i ∧ lv = .slice (some ⟨gl, 0, none⟩) r gc ∧ r + i = n ∧ Lft w4.heap.size gl gc r G wr ∧ Below w4.heap.size w4 wr ∧ ∀ u, i ≤ u → u < n → ∃ k, k < r ∧ G k = Lb u) (fun iv _ _ => n - (intOf iv).toNat)
      case atStart => exact ⟨0, n, L, by omega, rfl, rfl, by omega, HLF.out, HB5.out, fun u _ hu => HL2.out u hu⟩
      case round =>
        obtain ⟨i, r, G, hi, rfl, rfl, hri, hLf, hBr, hmem⟩ := hrel
        have HLr : Hid (Lft w4.heap.size gl gc r G wr) := hLf
        have HBr : Hid _ := hBr
        have HM : Hid _ := hmem
        by_cases hlt : i < n
        · have hlt' : (i : Int) < (n : Int) := by omega
          have HCV : Hid (∀ m, (wr.drewN m).cell? ⟨gv, i, none⟩ = some (.string (Lb i))) := fun m => (World.cell?_of_block (a := ⟨gv, i, none⟩) (show (wr.drewN m).heap[gv]? = wr.heap[gv]? from rfl)).trans ((hBr.cell (p := ⟨gv, i, none⟩) hgvl).trans (HRW.out.cell i hlt))
          have HCG : Hid (∀ m k, k < r → (wr.drewN m).cell? ⟨gl, k, none⟩ = some (.string (G k))) := fun m k hk => by
            have := World.ownsRow.cells hLf (g := gl) rfl k _ (tV_get G r k hk)
            rw [Addr.add_lit, Nat.zero_add] at this
            exact (World.cell?_of_block (a := ⟨gl, k, none⟩) (show (wr.drewN m).heap[gl]? = wr.heap[gl]? from rfl)).trans this
          clear hLf hBr hmem
          go_wp2_with fail
          go_loopw [13, 12] (fun kv av wx => ∃ (k : Nat) (at' : Int) (m : Nat), k ≤ r ∧ kv = .int .i64 k ∧ av = .int .i64 at' ∧ wx = wr.drewN m ∧ ((at' = -1 ∧ ∀ j, j < k → G j ≠ Lb i) ∨ ∃ p : Nat, p < k ∧ at' = p ∧ G p = Lb i)) (fun kv _ _ => r - (intOf kv).toNat)
          case atStart => exact ⟨0, -1, 0, by omega, rfl, rfl, rfl, .inl ⟨rfl, fun j hj => absurd hj (by omega)⟩⟩
          case round =>
            obtain ⟨k, at', m, hk, rfl, rfl, hwx, hat⟩ := hrel
            have HAT : Hid _ := hat
            by_cases hkr : k < r
            · have hkr' : (k : Int) < (r : Int) := by omega
              have c1 := HCG.out m k hkr
              have c2 := HCV.out m
              rw [← hwx] at c1 c2
              have HWX : Hid _ := hwx
              clear hwx hat
              by_cases he : G k = Lb i
              · have hq : ((G k).toList == (Lb i).toList) = true := texts_eq he
                have HE : Hid _ := he
                clear he
                go_wp2_with fail
                go_quiet (fail)
                go_wp2_with fail
                go_roundw
                case rel => exact ⟨k + 1, k, _, by omega, by go_num, rfl, by rw [HWX.out, World.drewN_drewN], .inr ⟨k, by omega, rfl, HE.out⟩⟩
                case measure => simp [intOf]; omega
              · have hq : ((G k).toList == (Lb i).toList) = false := texts_ne he
                have HE : Hid _ := he
                clear he
                go_wp2_with fail
                go_quiet (fail)
                go_wp2_with fail
                go_roundw
                case rel =>
                  refine ⟨k + 1, at', _, by omega, by go_num, rfl, by rw [HWX.out, World.drewN_drewN], ?_⟩
                  rcases HAT.out with ⟨h1, h2⟩ | ⟨p, h1, h2, h3⟩
                  · refine .inl ⟨h1, fun j hj => ?_⟩
                    by_cases ej : j = k
                    · subst ej; exact HE.out
                    · exact h2 j (by omega)
                  · exact .inr ⟨p, by omega, h2, h3⟩
                case measure => simp [intOf]; omega
            · obtain ⟨p, hp, rfl, hGp⟩ : ∃ p : Nat, p < r ∧ at' = p ∧ G p = Lb i := by
                rcases hat with ⟨h1, h2⟩ | ⟨p, h1, h2, h3⟩
                · obtain ⟨j, hj, e⟩ := HM.out i (Nat.le_refl _) hlt
                  exact absurd e (h2 j (by omega))
                · exact ⟨p, by omega, h2, h3⟩
              have HO2 : Hid (wr.ownsRow w4.heap.size 9 1 (.slice (some ⟨gl, 0, none⟩) r gc) r (tV G r)) := by rw [hwx]; exact HLr.out
              have HB2 : Hid (Below w4.heap.size w4 wr) := by show Below w4.heap.size w4 wr; rw [hwx]; exact below_drewN HBr.out m
              obtain ⟨cur, hcur, hglb, hrc, hcm, hcs, hcg⟩ := own_curT HO2.out
              have HCUR : Hid (wr.heap[gl]? = some (.cells cur 9 (0, 0))) := hcur
              obtain ⟨A, hA, hnews⟩ : ∃ A : Addr, (if gc = p + 1 then some (⟨gl, 0, none⟩ : Addr) else some ⟨gl, p + 1, none⟩) = some A ∧ Hid (∀ j u, (movT G p r)[j]? = some u → wr.drew.cell? (A.add j) = some u) := by
                by_cases h : gc = p + 1
                · refine ⟨⟨gl, 0, none⟩, by simp [h], fun j u hu => ?_⟩
                  have hl0 : (movT G p r).length = 0 := by rw [movT_len]; omega
                  rw [List.length_eq_zero_iff.1 hl0] at hu
                  simp at hu
                · refine ⟨⟨gl, p + 1, none⟩, by simp [h], fun j u hu => ?_⟩
                  have hj : j < r - (p + 1) := by
                    have := (List.getElem?_eq_some_iff.1 hu).1
                    rwa [movT_len] at this
                  rw [movT_get _ _ _ _ hj] at hu
                  rw [Addr.add_lit]
                  have hc := World.ownsRow.cells HO2.out (g := gl) rfl (p + 1 + j) _ (tV_get G r _ (by omega))
                  rw [Addr.add_lit, Nat.zero_add] at hc
                  rw [← hu]
                  exact hc
              have s1' : Hid ((movT G p r).length = (r - (p + 1)) * 1) := by show (movT G p r).length = _; rw [movT_len]; omega
              have s3' : Hid (∀ j, j < (movT G p r).length → (wr.drew.cell? ⟨gl, 0 + p * 1 + j, none⟩).isSome = true ∧ wr.drew.frozen? ⟨gl, 0 + p * 1 + j, none⟩ = false) := by
                intro j hj
                rw [movT_len] at hj
                refine ⟨?_, frozen_of_row _ _ _ _ 9 HCUR.out⟩
                have hc := World.ownsRow.cells HO2.out (g := gl) rfl (p + j) _ (tV_get G r _ (by omega))
                rw [Addr.add_lit] at hc
                show (wr.cell? _).isSome = true
                rw [Nat.zero_add, Nat.mul_one] at *
                rw [hc]; rfl
              have hpc : p ≤ gc := by omega
              have hwr : IntKind.i64.wrap ((p : Int) + 1) = (p : Int) + 1 := by rw [IntKind.wrap_i64]; omega
              have hp0 : (0 : Int) ≤ (p : Int) + 1 := by omega
              have hp1' : (p : Int) + 1 ≤ (r : Int) := by omega
              have hp2 : ((p : Int) + 1).toNat = p + 1 := by omega
              have hpn : ¬ ((p : Int) < 0) := by omega
              have HGP : Hid _ := hGp
              clear hat hwx hcur hcg hGp
              obtain ⟨i9, hi9, z0, z1, z2⟩ := info_parts info9p
              have HI9 : Hid _ := hi9
              go_wp2_with fail
              go_region_law (refine step_append_room rfl (.tmp 76) (.tmp 80) 42 rfl 9 i9 1 Tryz.underlying42 HI9.out z1 gl 0 p gc (by simp [Act.eval, Act.put]) A (r - (p + 1)) (gc - (p + 1)) (movT G p r) (by simp [Act.eval, Act.put]) s1'.out hnews.out (movT_one _ _ _) (by omega) s3'.out ?_)
              obtain ⟨W3, hW3⟩ : ∃ W3, wr.drew.setCells gl p (movT G p r) = W3 := ⟨_, rfl⟩
              have hrp : p + (r - (p + 1)) = r - 1 := by omega
              have HO3 : Hid (Lft w4.heap.size gl gc (r - 1) (delT G p) W3) := by
                show W3.ownsRow _ _ _ _ _ _
                rw [← hW3]; exact own_delT (w := wr.drew) HO2.out p hp
              have HB3' : Hid (Below w4.heap.size w4 W3) := by
                have hc : Calm wr.drew W3 := by rw [← hW3]; exact setCells_calm gl _ _ _
                have hs3 : W3.heap.size = wr.heap.size := by rw [← hW3]; exact setCells_size gl _ _ _
                have hb := HB2.out
                exact ⟨hc.1.trans hb.os, hc.2.1.trans hb.tape, hc.2.2.trans hb.output, by rw [hs3]; exact hb.size, fun k hk => by rw [← hW3, setCells_other gl k (by omega)]; exact hb.block k hk⟩
              rw [hW3, hrp]
              clear hW3 hA hwr
              go_wp2_with fail
              go_roundw
              case rel => exact ⟨i + 1, r - 1, delT G p, by omega, by go_num, rfl, by omega, HO3.out, HB3'.out, fun u hu hun => del_mem hp (HM.out u (by omega) hun) (by rw [HGP.out]; exact HL3.out u i hun hlt (by omega))⟩
              case measure => simp [intOf]; omega
        · have ei : n = i := by omega
          subst ei
          have hB6 : Below w.heap.size w wr := HB4.out.trans (hBr.mono HB4.out.size)
          have hgvr : gv < wr.heap.size := Nat.lt_of_lt_of_le hgvl hBr.size
          have hRr : Rw wr gv n 9 (tX Lb) := (hBr.block gv hgvl).trans HRW.out
          have HOb : Hid _ := opened_any kt rt Lb (some ⟨gv, 0, none⟩) n n wr (HG.out.below hB6) hn (fun j hj => by
            obtain ⟨j', hj', e⟩ := HL2.out j hj
            rw [← e]; exact HL.out j' hj') (.inr ⟨⟨gv, 0, none⟩, rfl, fun j hj => ⟨gv, 0, rfl, hgvr, by rw [Nat.zero_add]; exact hRr.cell j hj⟩⟩)
          have HB6 : Hid (Below w.heap.size w wr) := hB6
          have HRR : Hid (Rw wr gv n 9 (tX Lb)) := hRr
          clear hLf hBr hmem hB6 hRr
          go_wp2_with fail
          refine Calls.mono HOb.out ?_
          rintro e w6 ⟨hB7, ⟨rfl, hno⟩ | ⟨B', v', rfl, hBl', hBu', s2, t2, k2, g2, p2, q2, f2, un2, hop2, hr2, hBv2, ⟨hBq2, hBf2⟩, hVL2, hVS2⟩⟩
          · exact absurd HOP'.out (hno s' t')
          · obtain ⟨rfl, rfl⟩ : s2 = s' ∧ t2 = t' := by
              have h1 := hop2.2.1
              rw [HOP'.out.2.1] at h1
              cases h1
              have h2 := hop2.2.2
              rw [HOP'.out.2.2] at h2
              exact ⟨rfl, (Option.some.inj h2).symm⟩
            have hT2 : Told1 (tT t2) := ck_ok (rd_none hr2).2.1
            have hB06 := HB6.out.trans (hB7.mono HB6.out.size)
            have hszr := HB6.out.size
            have HRP2 : Hid _ := vrepair_ok kt B' v' k2 g2 p2 q2 f2 (tT t2) un2 s2.un s2.rd s2.bl _ _ _ w6 hVL2 hVS2 hT2 (told_len (RS.on t2)) (told_nm _) (HG.out.below hB06) hBu' (by omega) HA'.out
            rw [HV'.out] at HRP2
            have HB7 : Hid _ := hB7
            have q1 : wr.heap.size ≤ q2 := by omega
            have q2' : wr.heap.size ≤ f2 := by omega
            have q3 : wr.heap.size ≤ v' := by omega
            clear hB7 hop2 hr2 hVL2 hVS2 hT2 hB06
            go_wp2_with fail
            refine Calls.mono HRP2.out ?_
            rintro e w7 ⟨gt', rfl, hgt, hRt, hF7⟩
            have hB8 : Below wr.heap.size wr w7 := low3 HB7.out hF7 q1 q2' q3
            have HB8 : Hid (Below w.heap.size w w7) := HB6.out.trans (hB8.mono HB6.out.size)
            have HA1 : Hid (Cl w7 gt' n (tI (reV kt (tT t2) (blD kt (tT t2) s2.bl (dnS (fun _ => false) (tT t2).L.ns))))) := fun j hj => hRt.cell j hj
            have HA2 : Hid (Cl w7 gv n (tI Lb)) := fun j hj => (hB8.cell (p := ⟨gv, j, none⟩) hgvr).trans (HRR.out.cell j hj)
            clear hB8 hRt hF7 hgt
            go_wp2_with fail
            refine Calls.mono (same_any _ Lb n gt' n gv n w7 (by omega) HA1.out HA2.out (fun j hj => HL'.out _ (fun st hst => by simp [dnS, hst]) j hj)) ?_
            rintro e w8 ⟨rfl, hB9⟩
            have HB9 : Hid (Below w.heap.size w w8) := HB8.out.trans (hB9.mono HB8.out.size)
            clear hB9
            go_wp2_with fail
            go_ret
            exact ⟨rfl, HB9.out⟩
end Go.Proofs.YtadinjaocnlglaaGreatDoor
