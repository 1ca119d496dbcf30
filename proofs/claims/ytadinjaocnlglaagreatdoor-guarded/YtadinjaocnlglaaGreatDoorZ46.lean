/-
  The document's Texts.
  The walk of vaultkeep's collides.
  Plain: what Guarded looks at.
  The walk of vaultkeep's planned.
  The walks of vaultkeep's wrecked and may.
  The walk of vaultkeep's with.
  The walk of vaultkeep's rest.
  The walk of vaultkeep's takes: a block is zeroed.
  The walk of vaultkeep's takes: a volume is cut.
  The walk of vaultkeep's takes: a volume is left out.
  What vaultkeep.Erased keeps from loss to loss.
  The walk of vaultkeep's cuts.
  The walk of vaultkeep's turned.
-/
import Derived.Test.YtadinjaocnlglaaGreatDoorZ45
import Derived.Test.YtadinjaocnlglaaGreatDoorZ44
import Derived.BigRegion
import Derived.StillTailTactics
import Derived.Deep.RegionHeldLaw
namespace Go.Proofs.YtadinjaocnlglaaGreatDoor
open Go.RowKit
set_option maxRecDepth 100000
set_option maxHeartbeats 4000000
theorem told_lstT {kt : Nat → Int} {t : ByteArray} (h : rdE kt t = none) : (tT t).lst = lstT (tT t).L.K (tT t).L.M (tT t).L.C (tT t).L.V (tT t).L.es.length (nmE (tT t).L.es) (lnE (tT t).L.es) := by
  have h1 := (told_dec (bytes_ok (rd_none h).2.1)).2.1
  apply ba_ext
  rw [lstT_list]
  exact h1
theorem txT_len (kt : Nat → Int) (t : ByteArray) : (txT kt t).length ≤ 1100 := by
  unfold txT
  split
  · rename_i h
    have hT : Told1 (tT t) := ck_ok (rd_none h).2.1
    have h1 := jtL_len (ofT kt) _ (tT t).L.cnt (pc (tT t).lv 32) (Nat.le_refl _)
    have h2 := (vol_fit h).2
    have h3 := hT.cnt
    have h4 : nB t ≤ 512 := by
      have : (tT t).first + nB t ≤ (tT t).L.cnt := h2
      omega
    simp only [List.length_append, List.length_map, List.length_range, List.length_singleton]
    omega
  · simp
theorem txL_succ (kt : Nat → Int) (L : Nat → ByteArray) (i : Nat) : txL kt (texL L (i + 1)) = txL kt (texL L i) ++ txT kt (L i) := by
  unfold txL
  rw [texL_succ, List.flatMap_append]
  simp
theorem txL_len (kt : Nat → Int) (L : Nat → ByteArray) : ∀ i, (txL kt (texL L i)).length ≤ i * 1100
  | 0 => by simp [txL, texL]
  | i + 1 => by
    rw [txL_succ, List.length_append]
    have h1 := txL_len kt L i
    have h2 := txT_len kt (L i)
    omega
theorem rh_parts {kt : Nat → Int} {t : ByteArray} (h : rdE kt t = none) (vE vL vB : Value) : ∃ K M C V root es num cnt Lf first nb Bk, rhT t vE vL vB = ⟨K, M, C, V, root, vE, es, num, vL, cnt, Lf, first, vB, nb, Bk⟩ ∧ txT kt t = [⟨#[2]⟩ ++ lstT K M C V es.length (nmE es) (lnE es) ++ topT (ofT kt) cnt Lf] ++ jtL (ofT kt) cnt Lf ++ (List.range nb).map (fun i => ⟨#[0]⟩ ++ Bk i) ∧ K + M ≤ 255 ∧ C ≤ 64 ∧ V ≤ 16 ∧ es.length ≤ 16 ∧ (∀ j, (nmE es j).size ≤ 1000) ∧ (∀ j, lnE es j ≤ 100000) ∧ cnt ≤ 512 ∧ nb ≤ 512 ∧ (∀ i, (Lf i).size ≤ 32) ∧ (∀ i, (Bk i).size ≤ 1000) := by
  have hT : Told1 (tT t) := ck_ok (rd_none h).2.1
  have h2 : (tT t).first + nB t ≤ (tT t).L.cnt := (vol_fit h).2
  have h3 := hT.cnt
  have h4 : nB t ≤ 512 := by omega
  have hle := told_len (RS.on t)
  refine ⟨_, _, _, _, _, _, _, _, _, _, _, _, rfl, ?_, hT.km, hT.c64, hT.v16, hle.1, nmE_le (told_nm (RS.on t)), lnE_le hle.2, h3, h4, fun i => pc_le _ 32 i, fun i => Nat.le_trans (pc_le _ _ i) (Nat.le_trans hT.c64 (by omega))⟩
  unfold txT
  rw [if_pos h]
  unfold roT
  rw [told_lstT h]
  rfl
/-- a Head, and the list that grows -/
structure TI (w : World) (h : Nat) (d : HD) (ov : Value) (l : List ByteArray) (w' : World) : Prop where
  row : w'.heap[h]? = some (.cells d.cells 174 (0, 0))
  oE : w'.ownsRow w.heap.size 70 2 d.vE d.es.length (enV d.es)
  oL : w'.ownsRow w.heap.size 9 1 d.vL d.nl (tV d.Lf d.nl)
  oB : w'.ownsRow w.heap.size 9 1 d.vB d.nb (tV d.Bk d.nb)
  out : OwnT w' w.heap.size ov l
  ap : ∀ j, ov.ownBlock = some j → d.vL.ownBlock ≠ some j ∧ d.vB.ownBlock ≠ some j
  bel : Below w.heap.size w w'
theorem TI.low {w : World} {h : Nat} {d : HD} {ov : Value} {l : List ByteArray} {w' w2 : World} (T : TI w h d ov l w') (hb : Below w'.heap.size w' w2) : TI w h d ov l w2 where
  row := by rw [hb.block h (Array.getElem?_eq_some_iff.1 T.row).1]; exact T.row
  oE := own_kept T.oE (fun q hq => hb.block q (own_lt T.oE q hq))
  oL := own_kept T.oL (fun q hq => hb.block q (own_lt T.oL q hq))
  oB := own_kept T.oB (fun q hq => hb.block q (own_lt T.oB q hq))
  out := OwnT.below T.out hb
  ap := T.ap
  bel := T.bel.trans (hb.mono T.bel.size)
theorem TI.grow {w : World} {h : Nat} {d : HD} {ov ov' : Value} {l l' : List ByteArray} {w' w2 : World} (T : TI w h d ov l w') (hk : ∀ j, j < w'.heap.size → ov.ownBlock ≠ some j → w2.heap[j]? = w'.heap[j]?) (ho : OwnT w2 w.heap.size ov' l') (hb : Below w.heap.size w w2) (ha : ∀ j, j < w'.heap.size → ov'.ownBlock = some j → ov.ownBlock = some j) : TI w h d ov' l' w2 where
  row := by
    rw [hk h (Array.getElem?_eq_some_iff.1 T.row).1 (fun e => by
      obtain ⟨cur, hc⟩ := own_type T.out h e
      exact row_ne T.row hc (by decide) rfl)]
    exact T.row
  oE := own_kept T.oE (fun q hq => hk q (own_lt T.oE q hq) (fun e => by
    obtain ⟨cur, hc⟩ := own_type T.oE q hq
    obtain ⟨cur2, hc2⟩ := own_type T.out q e
    exact row_ne hc hc2 (by decide) rfl))
  oL := own_kept T.oL (fun q hq => hk q (own_lt T.oL q hq) (fun e => (T.ap q e).1 hq))
  oB := own_kept T.oB (fun q hq => hk q (own_lt T.oB q hq) (fun e => (T.ap q e).2 hq))
  out := ho
  ap := fun j e => ⟨fun e2 => (T.ap j (ha j (own_lt T.oL j e2) e)).1 e2, fun e2 => (T.ap j (ha j (own_lt T.oB j e2) e)).2 e2⟩
  bel := hb
theorem TI.snoc {w : World} {h : Nat} {d : HD} {ov : Value} {l : List ByteArray} {w' : World} (T : TI w h d ov l w') (x : ByteArray) (hn : l.length ≤ 1000000) :
    ∃ a n c w2, (Builtin.append_ #[42, 42] 42 #[ov, .slice (some ⟨w'.heap.size, 0, none⟩) 1 1]).run Tryz.prog (w'.alloc (.cells #[.string x] 9)) = .ok (.slice a n c) w2 ∧ TI w h d (.slice a n c) (l ++ [x]) w2 := by
  obtain ⟨v', w2, hrun, ho, hg, hbel, ha⟩ := OwnT.snoc T.out x hn T.bel.size
  obtain ⟨a, c, rfl⟩ := own_shape ho
  exact ⟨a, _, c, w2, hrun, T.grow (fun j hj hne => by rw [hg.block j (by simp; omega) (fun e => hne e.symm), heap_alloc_old _ _ hj]) ho (hbel w T.bel rfl) ha⟩
theorem TI.cat {w : World} {h B' : Nat} {d : HD} {ov u : Value} {l r : List ByteArray} {w' : World} (T : TI w h d ov l w') (hu : OwnT w' B' u r) (hn : l.length + r.length ≤ 1000000) :
    ∃ a n c w2, (Builtin.append_ #[42, 42] 42 #[ov, u]).run Tryz.prog w' = .ok (.slice a n c) w2 ∧ TI w h d (.slice a n c) (l ++ r) w2 := by
  obtain ⟨v', w2, hrun, ho, hg, hbel, ha⟩ := OwnT.cat T.out hu hn T.bel.size
  obtain ⟨a, c, rfl⟩ := own_shape ho
  exact ⟨a, _, c, w2, hrun, T.grow (fun j hj hne => hg.block j hj (fun e => hne e.symm)) ho (hbel w (Nat.le_refl _) T.bel rfl) ha⟩
theorem rtexts (kt : Nat → Int) (L : Nat → ByteArray) (g n cap : Nat) (w : World) (hG : Gr kt w) (hn : n ≤ 100) (hL : ∀ i, i < n → (L i).size ≤ 140737488351232) (hg : g < w.heap.size) (hc : ∀ i, i < n → w.cell? ⟨g, i, none⟩ = some (.string (L i))) :
    Calls Tryz.prog 45 #[.slice (some ⟨g, 0, none⟩) n cap] w fun e w' => ∃ v, e = .returned v ∧ OwnT w' w.heap.size v (txL kt (texL L n)) ∧ Below w.heap.size w w' := by
  have HG : Hid _ := hG
  have HL : Hid _ := hL
  have HC : Hid _ := hc
  clear hG hL hc
  go_enter Tryz.func45, Tryz.ntmps45
  go_wp2_with fail
  go_loopw [3, 4, 5, 6, 7, 8, 9] (fun ov iv _ _ _ _ _ wr => ∃ (i : Nat) (oo : Value), i ≤ n ∧ oo = ov ∧ iv = .int .i64 i ∧ OwnT wr w.heap.size oo (txL kt (texL L i)) ∧ Below w.heap.size w wr) (fun _ iv _ _ _ _ _ _ => n - (intOf iv).toNat)
  case atStart => exact ⟨0, _, by omega, rfl, rfl, OwnT.nil _ _, Below.refl _ _⟩
  case round =>
    obtain ⟨i, oo, hi, rfl, rfl, ho, hB⟩ := hrel
    obtain ⟨ao, co, hsv⟩ := own_shape ho
    subst hsv
    have HO : Hid _ := ho
    have HB : Hid _ := hB
    have hz := txL_len kt L i
    obtain ⟨l0, hl0⟩ : ∃ x, txL kt (texL L i) = x := ⟨_, rfl⟩
    have HS : Hid (txL kt (texL L (i + 1)) = l0 ++ txT kt (L i)) := by show _ = _; rw [txL_succ, hl0]
    rw [hl0] at HO hz ⊢
    clear ho hB
    by_cases hlt : i < n
    · have hlt' : (i : Int) < (n : Int) := by omega
      have c0 : wr.cell? ⟨g, i, none⟩ = some (.string (L i)) := (HB.out.cell (p := ⟨g, i, none⟩) hg).trans (HC.out i hlt)
      have HRD : Hid _ := rread kt (L i) wr (HG.out.below HB.out) (HL.out i hlt)
      obtain ⟨t, ht⟩ : ∃ x, L i = x := ⟨_, rfl⟩
      rw [ht] at HRD c0 HS
      clear ht hl0
      go_wp2_with fail
      refine Calls.mono HRD.out ?_
      rintro e w1 ⟨p, v, rfl, hR⟩
      have HR : Hid _ := hR
      clear hR HRD c0
      cases hrd : rdE kt t with
      | some kp =>
        obtain ⟨k, q⟩ := kp
        have hv := HR.out.bad k q hrd
        obtain ⟨av, cv, rfl⟩ := own_shape hv
        have HE : Hid (txT kt t = []) := by show _ = _; unfold txT; rw [if_neg (by rw [hrd]; simp)]
        clear hv
        go_wp2_with fail
        go_roundw
        case rel =>
          refine ⟨i + 1, _, by omega, rfl, by go_num, ?_, HB.out.trans (HR.out.bel.mono HB.out.size)⟩
          rw [HS.out, HE.out, List.append_nil]
          exact OwnT.below HO.out HR.out.bel
        case measure => simp [intOf]; omega
      | none =>
        obtain ⟨rfl, c, h, vE, vL, vB, st, rfl, hI⟩ := HR.out.good hrd
        obtain ⟨K, M, C, V, root, es, num, cnt, Lf, first, nb, Bk, hd, htx, hKM, hC64, hV16, hes, hnm, hln, hcnt, hnb, hLf, hBk⟩ := rh_parts hrd vE vL vB
        rw [hd] at hI
        have hoE := hI.oE
        have hoL := hI.oL
        have hoB := hI.oB
        simp only [] at hoE hoL hoB
        obtain ⟨aE, cE, hvE⟩ := own_shape hoE
        obtain ⟨aL, cL, hvL⟩ := own_shape hoL
        obtain ⟨aB, cB, hvB⟩ := own_shape hoB
        subst hvE hvL hvB
        have H1 : Hid (TI w h ⟨K, M, C, V, root, .slice aE es.length cE, es, num, .slice aL cnt cL, cnt, Lf, first, .slice aB nb cB, nb, Bk⟩ (.slice ao l0.length co) l0 w1) :=
          ⟨hI.row, own_base hoE HB.out.size, own_base hoL HB.out.size, own_base hoB HB.out.size, OwnT.below HO.out HR.out.bel, fun j e => ⟨fun e2 => by
            have h1 := own_lt HO.out j e
            have h2 := own_ge hoL j e2
            omega, fun e2 => by
            have h1 := own_lt HO.out j e
            have h2 := own_ge hoB j e2
            omega⟩, HB.out.trans (HR.out.bel.mono HB.out.size)⟩
        have HTX : Hid _ := htx
        have HNM : Hid _ := hnm
        have HLN : Hid _ := hln
        have HLF : Hid _ := hLf
        have HBK : Hid _ := hBk
        obtain ⟨lst, hlst⟩ : ∃ x, lstT K M C V es.length (nmE es) (lnE es) = x := ⟨_, rfl⟩
        obtain ⟨ro, hro⟩ : ∃ x, ⟨#[2]⟩ ++ lst ++ topT (ofT kt) cnt Lf = x := ⟨_, rfl⟩
        obtain ⟨jt, hjt⟩ : ∃ x, jtL (ofT kt) cnt Lf = x := ⟨_, rfl⟩
        rw [hlst, hro, hjt] at HTX
        have hjz : jt.length ≤ 512 := by rw [← hjt]; have := jtL_len (ofT kt) cnt cnt Lf (Nat.le_refl _); omega
        have hlz : lst.size ≤ 2000000 := by rw [← hlst]; exact lstT_size _ _ _ _ _ _ _ hnm (by omega)
        have HC1 : Hid (∀ X : World, Below w1.heap.size w1 X → Calls Tryz.prog 85 #[.agg #[.int .i64 K, .int .i64 M, .int .i64 C, .int .i64 V], .slice aE es.length cE] X fun e w' => e = .returned (.string lst) ∧ Below X.heap.size X w') := fun X hX => by
          rw [← hlst]
          exact rlist_any K M C V es.length cE aE (nmE es) (lnE es) X (by omega) (by omega) (by omega) (by omega) (by omega) HNM.out HLN.out (ent_cellsE rfl (own_kept hoE (fun q hq => hX.block q (own_lt hoE q hq))))
        have HC2 : Hid (∀ X : World, TI w h ⟨K, M, C, V, root, .slice aE es.length cE, es, num, .slice aL cnt cL, cnt, Lf, first, .slice aB nb cB, nb, Bk⟩ (.slice ao l0.length co) l0 X → Calls Tryz.prog 86 #[.string lst, .slice aL cnt cL] X fun e w' => e = .returned (.string ro) ∧ Below X.heap.size X w') := fun X hX => by
          rw [← hro]
          exact rooted_own kt lst Lf cnt w.heap.size _ X (by omega) (HG.out.below hX.bel) (fun i _ => HLF.out i) hX.oL
        have HC3 : Hid (∀ (X : World) ov l, TI w h ⟨K, M, C, V, root, .slice aE es.length cE, es, num, .slice aL cnt cL, cnt, Lf, first, .slice aB nb cB, nb, Bk⟩ ov l X → Calls Tryz.prog 87 #[.slice aL cnt cL] X fun e w' => ∃ v', e = .returned v' ∧ OwnT w' X.heap.size v' jt ∧ Below X.heap.size X w') := fun X ov l hX => by
          rw [← hjt]
          exact rjoints_own kt Lf cnt w.heap.size _ X (by omega) (HG.out.below hX.bel) (fun i _ => HLF.out i) hX.oL
        have hhl : h < w1.heap.size := (Array.getElem?_eq_some_iff.1 H1.out.row).1
        have HV : Hid (∀ w2 : World, Below w1.heap.size w1 w2 → w2.cell? ⟨h, 0, none⟩ = some (.int .i64 K) ∧ w2.cell? ⟨h, 1, none⟩ = some (.int .i64 M) ∧ w2.cell? ⟨h, 2, none⟩ = some (.int .i64 C) ∧ w2.cell? ⟨h, 3, none⟩ = some (.int .i64 V) ∧ w2.cell? ⟨h, 5, none⟩ = some (.slice aE es.length cE)) := fun X hX => by
          have h1 := (hX.block h hhl).trans H1.out.row
          exact ⟨cell_of_row _ _ _ _ 174 _ h1, cell_of_row _ _ _ _ 174 _ h1, cell_of_row _ _ _ _ 174 _ h1, cell_of_row _ _ _ _ 174 _ h1, cell_of_row _ _ _ _ 174 _ h1⟩
        obtain ⟨v0, v1, v2, v3, v5⟩ := HV.out w1 (Below.refl _ _)
        clear hI hd htx hnm hln hLf hBk hlst hro hjt hoE hoL hoB HR hrd
        go_wp2_with fail
        go_region_held3 (fun w2 => w2.cell? ⟨h, 0, none⟩ = some (.int .i64 K) ∧ w2.cell? ⟨h, 1, none⟩ = some (.int .i64 M) ∧ w2.cell? ⟨h, 2, none⟩ = some (.int .i64 C) ∧ w2.cell? ⟨h, 3, none⟩ = some (.int .i64 V) ∧ w2.cell? ⟨h, 5, none⟩ = some (.slice aE es.length cE)) (go_keep) (first | (go_at_call 85; refine Calls.mono (HC1.out _ (by first | exact Below.refl _ _ | exact (Below.refl _ _).drew)) ?_; rintro e w2 ⟨rfl, hb2⟩; have hB2 : Below w1.heap.size w1 w2 := (by first | exact hb2 | exact ((Below.refl _ _).drew).trans hb2); obtain ⟨x0, x1, x2, x3, x5⟩ := HV.out w2 hB2))
        have H2 : Hid _ := H1.out.low hB2
        have y7 : w2.cell? ⟨h, 7, none⟩ = some (.slice aL cnt cL) := cell_of_row _ _ _ _ 174 _ H2.out.row
        clear v0 v1 v2 v3 v5 x0 x1 x2 x3 x5 hb2 hB2 HC1 HV hhl H1
        go_wp2_with fail
        refine Calls.mono (HC2.out _ H2.out) ?_
        rintro e w3 ⟨rfl, hB3⟩
        have H3 : Hid _ := H2.out.low hB3
        obtain ⟨a4, n4, c4, w4, hrun4, hT4⟩ := H3.out.snoc ro (by omega)
        have R4 : Hid _ := hrun4
        have H4 : Hid _ := hT4
        have z7 : w4.cell? ⟨h, 7, none⟩ = some (.slice aL cnt cL) := cell_of_row _ _ _ _ 174 _ hT4.row
        clear hB3 H2 y7 hrun4 hT4 HC2
        go_wp2_with (at_builtin; refine wpList_app rfl (.tmp 36) (.tmp 43) 42 rfl _ _ _ (by simp [Act.eval]) (by simp [Act.eval]) _ R4.out ?_)
        refine Calls.mono (HC3.out _ _ _ H4.out) ?_
        rintro e w5 ⟨v5, rfl, ho5, hB5⟩
        obtain ⟨a5, c5, rfl⟩ := own_shape ho5
        have H5 : Hid _ := H4.out.low hB5
        obtain ⟨a6, n6, c6, w6, hrun6, hT6⟩ := TI.cat H5.out ho5 (by simp; omega)
        have R6 : Hid _ := hrun6
        have H6 : Hid _ := hT6
        clear ho5 hB5 hrun6 hT6 z7 H4 R4 HC3
        obtain ⟨l6, hl6⟩ : ∃ x, l0 ++ [ro] ++ jt = x := ⟨_, rfl⟩
        rw [hl6] at H6
        have hl6z : l6.length ≤ 200000 := by rw [← hl6]; simp; omega
        have HS6 : Hid (txL kt (texL L (i + 1)) = l6 ++ (List.range nb).map (fun i => ⟨#[0]⟩ ++ Bk i)) := by
          show _ = _
          rw [HS.out, HTX.out, ← hl6]; simp only [List.append_assoc]
        clear hl6 HS HTX
        go_wp2_with (at_builtin; refine wpList_app rfl (.tmp 50) (.tmp 51) 42 rfl _ _ _ (by simp [Act.eval]) (by simp [Act.eval]) _ R6.out ?_)
        go_loopw [3, 9] (fun ov kv wr => ∃ (k : Nat) (oo : Value), k ≤ nb ∧ oo = ov ∧ kv = .int .i64 k ∧ TI w h ⟨K, M, C, V, root, .slice aE es.length cE, es, num, .slice aL cnt cL, cnt, Lf, first, .slice aB nb cB, nb, Bk⟩ oo (l6 ++ (List.range k).map (fun i => ⟨#[0]⟩ ++ Bk i)) wr) (fun _ kv _ => nb - (intOf kv).toNat)
        case atStart => exact ⟨0, _, by omega, rfl, rfl, by simp only [List.range_zero, List.map_nil, List.append_nil]; exact H6.out⟩
        case round =>
          obtain ⟨k, oo, hk, rfl, rfl, hT⟩ := hrel
          have hoo := hT.out
          obtain ⟨lk, hlk⟩ : ∃ x, l6 ++ (List.range k).map (fun i => ⟨#[0]⟩ ++ Bk i) = x := ⟨_, rfl⟩
          have hlkz : lk.length ≤ 300000 := by rw [← hlk]; simp; omega
          have HLK : Hid (l6 ++ (List.range (k + 1)).map (fun i => ⟨#[0]⟩ ++ Bk i) = lk ++ [⟨#[0]⟩ ++ Bk k]) := by
            show _ = _
            rw [List.range_succ, List.map_append, ← hlk]; simp only [List.append_assoc, List.map_cons, List.map_nil]
          have HKN : Hid (k = nb → l6 ++ (List.range nb).map (fun i => ⟨#[0]⟩ ++ Bk i) = lk) := fun e => by rw [← e]; exact hlk
          rw [hlk] at hT hoo
          obtain ⟨ak, ck, rfl⟩ := own_shape hoo
          have HT : Hid _ := hT
          have a9 : wr.cell? ⟨h, 9, none⟩ = some (.slice aB nb cB) := cell_of_row _ _ _ _ 174 _ hT.row
          have hoB := hT.oB
          simp only [] at hoB
          clear hoo hT hlk
          by_cases hkl : k < nb
          · have hkl' : (k : Int) < (nb : Int) := by omega
            obtain ⟨gB, cB', hvB, _, hgB, hCl⟩ := own_row9 hoB (by omega)
            cases hvB
            have b0 : wr.cell? ⟨gB, k, none⟩ = some (.string (Bk k)) := hCl k hkl
            have HLE : Hid _ := fun W => rleaf_any (Bk k) W (by have := HBK.out k; omega)
            obtain ⟨x, hx⟩ : ∃ x, (⟨#[0]⟩ ++ Bk k : ByteArray) = x := ⟨_, rfl⟩
            rw [hx] at HLE HLK
            obtain ⟨a8, n8, c8, w8, hrun8, hT8⟩ := HT.out.snoc x (by omega)
            have R8 : Hid _ := hrun8
            have H8 : Hid _ := hT8
            clear hx hrun8 hT8 hCl hoB
            go_wp2_with fail
            refine Calls.mono (HLE.out _) ?_
            rintro e w7 ⟨rfl, rfl⟩
            go_wp2_with (at_builtin; refine wpList_app rfl (.tmp 62) (.tmp 71) 42 rfl _ _ _ (by simp [Act.eval]) (by simp [Act.eval]) _ R8.out ?_)
            go_roundw
            case rel => exact ⟨k + 1, _, by omega, rfl, by go_num, by rw [HLK.out]; exact H8.out⟩
            case measure => simp [intOf]; omega
          · have hkl' : ¬ (k : Int) < (nb : Int) := by omega
            have hke : k = nb := by omega
            have HFI : Hid _ := HS6.out.trans (HKN.out hke)
            clear hke
            go_wp2_with fail
            go_roundw
            case rel => exact ⟨i + 1, _, by omega, rfl, by go_num, by rw [HFI.out]; exact HT.out.out, HT.out.bel⟩
            case measure => simp [intOf]; omega
    · have hlt' : ¬ (i : Int) < (n : Int) := by omega
      obtain rfl : i = n := by omega
      go_wp2_with fail
      go_ret
      exact ⟨_, rfl, HO.out, HB.out⟩
end Go.Proofs.YtadinjaocnlglaaGreatDoor
namespace Go.Proofs.YtadinjaocnlglaaGreatDoor
open Go.RowKit
set_option maxRecDepth 100000
set_option maxHeartbeats 4000000
def CoD (D : ByteArray → ByteArray) (F : Nat → ByteArray) (n : Nat) (w : World) (e : Ending) (w' : World) : Prop := ∃ b, e = .returned (.bool b) ∧ (b = false → ∀ i k, i < n → k < i → D (F i) = D (F k) → F i = F k) ∧ Below w.heap.size w w'
theorem collides_any (kt : Nat → Int) (F : Nat → ByteArray) (g n cap : Nat) (w : World) (hG : Gd kt w) (hF : ∀ i, i < n → (F i).size ≤ 140737488351232) (hg : g < w.heap.size) (hn : n ≤ 1000000) (hc : ∀ i, i < n → w.cell? ⟨g, i, none⟩ = some (.string (F i))) :
    Calls Tryz.prog 46 #[.slice (some ⟨g, 0, none⟩) n cap] w fun e w' => CoD (ofT kt) F n w e w' := by
  have HC : Hid _ := hc
  obtain ⟨D, hD⟩ : ∃ D, ofT kt = D := ⟨_, rfl⟩
  have HD : Hid (∀ (i : Nat) (W : World), i < n → Below w.heap.size w W → Calls Tryz.prog 79 #[.string (F i)] W fun e w' => e = .returned (.string (D (F i))) ∧ Below W.heap.size W w') := fun i W hi hW => by
    have h3 := vdigest_any kt (F i) W (hF i hi) (hG.below hW).tab (hG.below hW).one
    rw [hD] at h3
    exact h3
  rw [hD]
  clear hG hD hc
  go_enter Tryz.func46, Tryz.ntmps46
  go_wp2_with fail
  go_loopw [3, 4] (fun iv _ wr => ∃ i : Nat, i ≤ n ∧ iv = .int .i64 i ∧ (∀ i' k, i' < i → k < i' → D (F i') = D (F k) → F i' = F k) ∧ Below w.heap.size w wr) (fun iv _ _ => n - (intOf iv).toNat)
  case atStart => exact ⟨0, by omega, rfl, fun i' k h => by omega, Below.refl _ _⟩
  case round =>
    obtain ⟨i, hi, rfl, hP, hB⟩ := hrel
    have HP : Hid _ := hP
    have HB : Hid _ := hB
    clear hP hB
    by_cases hlt : i < n
    · have hlt' : (i : Int) < (n : Int) := by omega
      go_wp2_with fail
      go_loopw [4] (fun kv wr => ∃ k : Nat, k ≤ i ∧ kv = .int .i64 k ∧ (∀ k', k' < k → D (F i) = D (F k') → F i = F k') ∧ Below w.heap.size w wr) (fun kv _ => i - (intOf kv).toNat)
      case atStart => exact ⟨0, by omega, rfl, fun k h => by omega, HB.out⟩
      case round =>
        obtain ⟨k, hk, rfl, hQ, hB2⟩ := hrel
        have HQ : Hid _ := hQ
        have HB2 : Hid _ := hB2
        clear hQ hB2
        by_cases hkl : k < i
        · have hkl' : (k : Int) < (i : Int) := by omega
          have hkn : (k : Int) < (n : Int) := by omega
          obtain ⟨a, ha⟩ : ∃ x, F i = x := ⟨_, rfl⟩
          obtain ⟨b, hb⟩ : ∃ x, F k = x := ⟨_, rfl⟩
          have HVV : Hid (∀ w2 : World, Below wr.heap.size wr w2 → w2.cell? ⟨g, i, none⟩ = some (.string a) ∧ w2.cell? ⟨g, k, none⟩ = some (.string b)) := fun w2 hw2 => by
            have h1 := HB2.out.trans (hw2.mono HB2.out.size)
            rw [← ha, ← hb]
            exact ⟨(h1.cell (p := ⟨g, i, none⟩) hg).trans (HC.out i hlt), (h1.cell (p := ⟨g, k, none⟩) hg).trans (HC.out k (by omega))⟩
          have HD1 : Hid (∀ W : World, Below wr.heap.size wr W → Calls Tryz.prog 79 #[.string a] W fun e w' => e = .returned (.string (D a)) ∧ Below W.heap.size W w') := fun W hW => by
            rw [← ha]; exact HD.out i W hlt (HB2.out.trans (hW.mono HB2.out.size))
          have HD2 : Hid (∀ W : World, Below wr.heap.size wr W → Calls Tryz.prog 79 #[.string b] W fun e w' => e = .returned (.string (D b)) ∧ Below W.heap.size W w') := fun W hW => by
            rw [← hb]; exact HD.out k W (by omega) (HB2.out.trans (hW.mono HB2.out.size))
          obtain ⟨v0, v1⟩ := HVV.out wr (Below.refl _ _)
          by_cases hab : a = b
          · have q1 : (a.toList == b.toList) = true := texts_eq hab
            have HAB : Hid (F i = F k) := by show _ = _; rw [ha, hb, hab]
            clear hab ha hb
            go_wp2_with fail
            go_region
            go_wp2_with fail
            go_roundw
            case rel => 
              refine ⟨k + 1, by omega, by go_num, fun k' hk' e => ?_, by first | exact HB2.out.drew | exact HB2.out⟩
              by_cases e' : k' = k
              · rw [e']; exact HAB.out
              · exact HQ.out k' (by omega) e
            case measure => simp [intOf]; omega
          · have q1 : (a.toList == b.toList) = false := texts_ne hab
            go_wp2_with fail
            go_region_held3 (fun w2 => w2.cell? ⟨g, i, none⟩ = some (.string a) ∧ w2.cell? ⟨g, k, none⟩ = some (.string b)) (go_keep) (first | (go_at_call 79; refine Calls.mono (HD1.out _ (by first | exact Below.refl _ _ | exact (Below.refl _ _).drew)) ?_; rintro e w7 ⟨rfl, hb7⟩; have hB7 : Below wr.heap.size wr w7 := (by first | exact hb7 | exact ((Below.refl _ _).drew).trans hb7); obtain ⟨x0, x1⟩ := HVV.out w7 hB7) | (go_at_call 79; refine Calls.mono (HD2.out _ hB7) ?_; rintro e w8 ⟨rfl, hb8⟩; have hB8 : Below wr.heap.size wr w8 := (hB7.trans (hb8.mono hB7.size)); obtain ⟨y0, y1⟩ := HVV.out w8 hB8))
            have HB8 : Hid (Below w.heap.size w w8) := HB2.out.trans (hB8.mono HB2.out.size)
            clear hb7 hB7 x0 x1 hb8 hB8 y0 y1 v0 v1
            by_cases hl : D a = D b
            · have q2 : ((D a).toList == (D b).toList) = true := texts_eq hl
              rw [q2]
              clear q2 hl
              go_wp2_with fail
              go_ret
              exact ⟨true, rfl, fun h => (by cases h), HB8.out⟩
            · have q2 : ((D a).toList == (D b).toList) = false := texts_ne hl
              have HNE : Hid (¬ D (F i) = D (F k)) := by show ¬ _; rw [ha, hb]; exact hl
              rw [q2]
              clear q2 hl ha hb
              go_wp2_with fail
              go_roundw
              case rel =>
                refine ⟨k + 1, by omega, by go_num, fun k' hk' e => ?_, HB8.out⟩
                by_cases e' : k' = k
                · rw [e'] at e; exact absurd e HNE.out
                · exact HQ.out k' (by omega) e
              case measure => simp [intOf]; omega
        · have hkl' : ¬ (k : Int) < (i : Int) := by omega
          have hke : k = i := by omega
          have HQ2 : Hid (∀ k', k' < i → D (F i) = D (F k') → F i = F k') := fun k' h => HQ.out k' (by omega)
          clear hke
          go_wp2_with fail
          go_roundw
          case rel =>
            refine ⟨i + 1, by omega, by go_num, fun i' k' h1 h2 e => ?_, HB2.out⟩
            by_cases e' : i' = i
            · rw [e'] at h2 e ⊢; exact HQ2.out k' h2 e
            · exact HP.out i' k' (by omega) h2 e
          case measure => simp [intOf]; omega
    · have hlt' : ¬ (i : Int) < (n : Int) := by omega
      obtain rfl : i = n := by omega
      go_wp2_with fail
      go_ret
      exact ⟨false, rfl, fun _ => HP.out, HB.out⟩
end Go.Proofs.YtadinjaocnlglaaGreatDoor
namespace Go.Proofs.YtadinjaocnlglaaGreatDoor
open Go.RowKit
set_option maxRecDepth 100000
set_option maxHeartbeats 1000000
/-- each object that comes out is one that went in, in the same order -/
structure Rgt (F : Nat → Ob) (q : Nat) (G : Nat → Ob) (n : Nat) (J : Nat → Nat) : Prop where
  lt : ∀ i j, i < j → j < n → J i < J j
  at_ : ∀ i, i < n → J i < q ∧ G i = F (J i)
theorem Gdd.rgt {kt : Nat → Int} {F : Nat → Ob} {q : Nat} {s : OS} {t0 : ByteArray} (h : Gdd kt F q s t0) {G : Nat → Ob} {n : Nat} (ho : objs G n = outL kt (tT t0) s.bl (tT t0).L.es.length) : (∃ J, Rgt F q G n J) ∧ n ≤ q ∧ (losL kt (tT t0) s.bl (tT t0).L.es.length = [] → n = q) := by
  have hl : (tT t0).L.es.length = q := by rw [h.es, esF_len]
  rw [hl] at ho ⊢
  obtain ⟨P, hP⟩ : ∃ P, (List.range q).filter (fun j => finJ kt (tT t0) s.bl j) = P := ⟨_, rfl⟩
  have hO : outL kt (tT t0) s.bl q = P.map (unO kt (tT t0) s.bl) := by unfold outL; rw [hP]
  rw [hO] at ho
  have hlen : n = P.length := by
    have := congrArg List.length ho
    simpa [objs] using this
  have hmem : ∀ x ∈ P, x < q ∧ finJ kt (tT t0) s.bl x = true := fun x hx => by
    rw [← hP] at hx
    obtain ⟨h1, h2⟩ := List.mem_filter.1 hx
    exact ⟨List.mem_range.1 h1, h2⟩
  have hpw : P.Pairwise (· < ·) := by rw [← hP]; exact List.pairwise_lt_range.filter _
  have hq : n ≤ q := by
    rw [hlen, ← hP]
    exact Nat.le_trans (List.length_filter_le _ _) (by simp)
  have hget : ∀ i (hi : i < P.length), P.getD i 0 = P[i] := fun i hi => by
    rw [List.getD_eq_getElem?_getD, List.getElem?_eq_getElem hi]; rfl
  refine ⟨⟨fun i => P.getD i 0, fun i j hij hj => ?_, fun i hi => ?_⟩, hq, fun hlo => ?_⟩
  · show P.getD i 0 < P.getD j 0
    rw [hget i (by omega), hget j (by omega)]
    exact List.pairwise_iff_getElem.1 hpw i j _ _ hij
  · show P.getD i 0 < q ∧ G i = F (P.getD i 0)
    have hi' : i < P.length := by omega
    rw [hget i hi']
    obtain ⟨h1, h2⟩ := hmem _ (List.getElem_mem hi')
    refine ⟨h1, ?_⟩
    rw [← h.obj _ h1 h2]
    have e := congrArg (fun l => l[i]?) ho
    simp only [objs, List.getElem?_map, List.getElem?_range hi, List.getElem?_eq_getElem hi', Option.map_some, Option.some.injEq] at e
    exact e
  · have hf : (List.range q).filter (fun j => !finJ kt (tT t0) s.bl j) = [] := by
      unfold losL at hlo
      exact List.map_eq_nil_iff.1 hlo
    have hall : ∀ x ∈ List.range q, finJ kt (tT t0) s.bl x = true := fun x hx => by
      have := List.filter_eq_nil_iff.1 hf x hx
      simpa using this
    rw [hlen, ← hP, List.filter_eq_self.2 hall]
    simp
theorem jtL_sz (D : ByteArray → ByteArray) (hD : ∀ s, (D s).size ≤ 32) : ∀ (m n : Nat) (L : Nat → ByteArray), n ≤ m → (∀ i, (L i).size ≤ 32) → ∀ x ∈ jtL D n L, x.size ≤ 65
  | 0, n, L, h, _, x, hx => by rw [jtL_0 D n L (by omega)] at hx; cases hx
  | m + 1, n, L, h, hL, x, hx => by
    by_cases h2 : n < 2
    · rw [jtL_0 D n L h2] at hx; cases hx
    · have h1 : hf n < n := hf_lt n (by omega)
      have h0 : 0 < hf n := hf_pos n
      rw [jtL_n D n L (by omega)] at hx
      rcases List.mem_append.1 hx with hx | hx
      · rcases List.mem_append.1 hx with hx | hx
        · exact jtL_sz D hD m (hf n) L (by omega) hL x hx
        · rw [List.mem_singleton.1 hx]
          have a := topT_le D 32 hD (hf n) L (fun i _ => hL i)
          have b := topT_le D 32 hD (n - hf n) (fun j => L (hf n + j)) (fun i _ => hL _)
          have e1 : (⟨#[1]⟩ : ByteArray).size = 1 := rfl
          rw [ByteArray.size_append, ByteArray.size_append, e1]
          omega
      · exact jtL_sz D hD m (n - hf n) (fun j => L (hf n + j)) (by omega) (fun i => hL _) x hx
theorem txT_sz (kt : Nat → Int) (t : ByteArray) : ∀ x ∈ txT kt t, x.size ≤ 140737488351232 := by
  intro x hx
  cases hr : rdE kt t with
  | some k => unfold txT at hx; rw [if_neg (by rw [hr]; simp)] at hx; cases hx
  | none =>
    obtain ⟨K, M, C, V, root, es, num, cnt, Lf, first, nb, Bk, _, htx, _, _, _, hes, hnm, _, _, _, hLf, hBk⟩ := rh_parts hr (.bool true) (.bool true) (.bool true)
    rw [htx] at hx
    have e0 : (⟨#[0]⟩ : ByteArray).size = 1 := rfl
    have e2 : (⟨#[2]⟩ : ByteArray).size = 1 := rfl
    have hD : ∀ s, (ofT kt s).size ≤ 32 := fun s => Nat.le_of_eq (ofT_size kt s)
    rcases List.mem_append.1 hx with hx | hx
    · rcases List.mem_append.1 hx with hx | hx
      · rw [List.mem_singleton.1 hx]
        have a := lstT_size K M C V es.length (nmE es) (lnE es) hnm (by omega)
        have b := topT_le (ofT kt) 32 hD cnt Lf (fun i _ => hLf i)
        rw [ByteArray.size_append, ByteArray.size_append, e2]
        omega
      · have := jtL_sz (ofT kt) hD cnt cnt Lf (Nat.le_refl _) hLf x hx
        omega
    · obtain ⟨i, _, rfl⟩ := List.mem_map.1 hx
      rw [ByteArray.size_append, e0]
      have := hBk i
      omega
theorem txL_sz (kt : Nat → Int) (l : List ByteArray) : ∀ x ∈ txL kt l, x.size ≤ 140737488351232 := fun x hx => by
  obtain ⟨t, _, h⟩ := List.mem_flatMap.1 hx
  exact txT_sz kt t x h
theorem noc_of {kt : Nat → Int} {l : List ByteArray} (h : ∀ i k, i < l.length → k < i → ofT kt (l.getD i ⟨#[]⟩) = ofT kt (l.getD k ⟨#[]⟩) → l.getD i ⟨#[]⟩ = l.getD k ⟨#[]⟩) : NoC kt l := by
  intro x hx y hy e
  obtain ⟨i, hi, rfl⟩ := List.getElem_of_mem hx
  obtain ⟨k, hk, rfl⟩ := List.getElem_of_mem hy
  have hg : ∀ j (hj : j < l.length), l.getD j ⟨#[]⟩ = l[j] := fun j hj => by
    rw [List.getD_eq_getElem?_getD, List.getElem?_eq_getElem hj]; rfl
  rcases Nat.lt_trichotomy i k with h1 | h1 | h1
  · have := h k i hk h1
    rw [hg i hi, hg k hk] at this
    exact (this e.symm).symm
  · subst h1; rfl
  · have := h i k hi h1
    rw [hg i hi, hg k hk] at this
    exact this e
theorem OwnT.row {w : World} {B : Nat} {v : Value} {l : List ByteArray} (h : OwnT w B v l) (hn : 0 < l.length) : ∃ g c, v = .slice (some ⟨g, 0, none⟩) l.length c ∧ g < w.heap.size ∧ ∀ i, i < l.length → w.cell? ⟨g, i, none⟩ = some (.string (l.getD i ⟨#[]⟩)) := by
  have h' : w.ownsRow B 9 1 v l.length (tV (fun i => l.getD i ⟨#[]⟩) l.length) := by
    have e : tV (fun i => l.getD i ⟨#[]⟩) l.length = txs l := by
      unfold tV txs
      apply List.ext_getElem
      · simp
      · intro i h1 h2
        have hi : i < l.length := by simpa using h2
        simp [List.getD_eq_getElem?_getD, List.getElem?_eq_getElem hi]
    rw [e]; exact h
  obtain ⟨g, c, e, _, hg, hC⟩ := own_row9 h' hn
  exact ⟨g, c, e, hg, hC⟩
/-- a list of changes -/
def Chs (w : World) (a : Option Addr) (n : Nat) : Prop := ∀ i, i < n → ∃ b off k m t h s, a = some ⟨b, off, none⟩ ∧ b < w.heap.size ∧ w.cell? ⟨b, off + i * 5, none⟩ = some (.int .i64 k) ∧ w.cell? ⟨b, off + i * 5 + 1, none⟩ = some (.int .i64 m) ∧ w.cell? ⟨b, off + i * 5 + 2, none⟩ = some (.int .i64 t) ∧ w.cell? ⟨b, off + i * 5 + 3, none⟩ = some (.bool h) ∧ w.cell? ⟨b, off + i * 5 + 4, none⟩ = some (.string s) ∧ (-9223372036854775808 ≤ k ∧ k ≤ 9223372036854775807) ∧ (-9223372036854775808 ≤ m ∧ m ≤ 9223372036854775807) ∧ s.size ≤ 140737488351232
theorem Chs.below {w w' : World} {a : Option Addr} {n : Nat} (h : Chs w a n) (hb : Below w.heap.size w w') : Chs w' a n := fun i hi => by
  obtain ⟨b, off, k, m, t, x, s, e, hlt, x0, x1, x2, x3, x4, hr⟩ := h i hi
  exact ⟨b, off, k, m, t, x, s, e, Nat.lt_of_lt_of_le hlt hb.size, (hb.cell (p := ⟨b, _, none⟩) hlt).trans x0, (hb.cell (p := ⟨b, _, none⟩) hlt).trans x1, (hb.cell (p := ⟨b, _, none⟩) hlt).trans x2, (hb.cell (p := ⟨b, _, none⟩) hlt).trans x3, (hb.cell (p := ⟨b, _, none⟩) hlt).trans x4, hr⟩
end Go.Proofs.YtadinjaocnlglaaGreatDoor
namespace Go.Proofs.YtadinjaocnlglaaGreatDoor
open Go.RowKit
set_option maxRecDepth 100000
set_option maxHeartbeats 4000000
end Go.Proofs.YtadinjaocnlglaaGreatDoor
namespace Go.Proofs.YtadinjaocnlglaaGreatDoor
open Go.RowKit
set_option maxRecDepth 100000
set_option maxHeartbeats 4000000
end Go.Proofs.YtadinjaocnlglaaGreatDoor
namespace Go.Proofs.YtadinjaocnlglaaGreatDoor
open Go.RowKit
set_option maxRecDepth 100000
set_option maxHeartbeats 4000000
/-- a row of texts -/
def VRw (w : World) (g V : Nat) (L : Nat → ByteArray) : Prop := ∃ cs : Array Value, w.heap[g]? = some (.cells cs 9 (0, 0)) ∧ ∀ v, v < V → cs[v]? = some (.string (L v))
theorem VRw.cell {w : World} {g V : Nat} {L : Nat → ByteArray} (h : VRw w g V L) {v : Nat} (hv : v < V) : w.cell? ⟨g, v, none⟩ = some (.string (L v)) := by
  obtain ⟨cs, h1, h2⟩ := h
  rw [cell_of_row w g v cs 9 _ h1]; exact h2 v hv
theorem VRw.free {w : World} {g V : Nat} {L : Nat → ByteArray} (h : VRw w g V L) (v : Nat) : w.frozen? ⟨g, v, none⟩ = false := by
  obtain ⟨cs, h1, h2⟩ := h
  exact frozen_of_row w g v cs 9 h1
theorem VRw.lt {w : World} {g V : Nat} {L : Nat → ByteArray} (h : VRw w g V L) : g < w.heap.size := by
  obtain ⟨cs, h1, h2⟩ := h
  exact (Array.getElem?_eq_some_iff.1 h1).1
theorem VRw.kept {w w' : World} {g V : Nat} {L : Nat → ByteArray} (h : VRw w g V L) (hk : w'.heap[g]? = w.heap[g]?) : VRw w' g V L := by
  obtain ⟨cs, h1, h2⟩ := h
  exact ⟨cs, hk.trans h1, h2⟩
theorem VRw.set {w : World} {g V : Nat} {L : Nat → ByteArray} (h : VRw w g V L) (u : Nat) (t : ByteArray) : VRw (w.setCell ⟨g, u, none⟩ (.string t)) g V (updT L u t) := by
  obtain ⟨cs, h1, h2⟩ := h
  refine ⟨_, set_heap _ _ _ _ _ _ _ h1, fun v hv => ?_⟩
  have e := h2 v hv
  have hl : v < cs.size := (Array.getElem?_eq_some_iff.1 e).1
  rw [Array.getElem?_setIfInBounds]
  unfold updT
  by_cases ev : u = v
  · subst ev; rw [if_pos rfl, if_pos hl, if_pos rfl]
  · rw [if_neg ev, if_neg (fun e => ev e.symm)]; exact e
theorem own_vr {w : World} {B n : Nat} {L : Nat → ByteArray} {v : Value} (h : w.ownsRow B 9 1 v n (tV L n)) (hn : 0 < n) : ∃ g cap, v = .slice (some ⟨g, 0, none⟩) n cap ∧ B ≤ g ∧ VRw w g n L := by
  obtain ⟨g, cap, rfl, hB, _, hcl⟩ := own_row9 h hn
  obtain ⟨cur, hcur⟩ := own_type h g rfl
  refine ⟨g, cap, rfl, hB, cur, hcur, fun i hi => ?_⟩
  have := hcl i hi
  rw [cell_of_row w g i cur 9 _ hcur] at this
  exact this
end Go.Proofs.YtadinjaocnlglaaGreatDoor
namespace Go.Proofs.YtadinjaocnlglaaGreatDoor
open Go.RowKit
set_option maxRecDepth 100000
set_option maxHeartbeats 4000000
end Go.Proofs.YtadinjaocnlglaaGreatDoor
namespace Go.Proofs.YtadinjaocnlglaaGreatDoor
open Go.RowKit
set_option maxRecDepth 100000
set_option maxHeartbeats 4000000
section
variable {B wb gl go gc cc x gf cf gp cp K M C V ns nb gv : Nat} {pl : Nat → Nat} {lost out : Nat → Bool} {cut : Nat → Nat} {L : Nat → ByteArray} {w w' : World}
theorem VRw.drewN (h : VRw w gv V L) (m : Nat) : VRw (w.drewN m) gv V L := h.kept rfl
end
theorem below_dN {B : Nat} {w w' : World} (h : Below B w w') (m : Nat) : Below B w (w'.drewN m) := below_drewN h m
end Go.Proofs.YtadinjaocnlglaaGreatDoor
namespace Go.Proofs.YtadinjaocnlglaaGreatDoor
open Go.RowKit
set_option maxRecDepth 100000
set_option maxHeartbeats 4000000
end Go.Proofs.YtadinjaocnlglaaGreatDoor
namespace Go.Proofs.YtadinjaocnlglaaGreatDoor
open Go.RowKit
set_option maxRecDepth 100000
set_option maxHeartbeats 4000000
end Go.Proofs.YtadinjaocnlglaaGreatDoor
namespace Go.Proofs.YtadinjaocnlglaaGreatDoor
open Go.RowKit
set_option maxRecDepth 100000
set_option maxHeartbeats 4000000
theorem rw_vr {w : World} {g V : Nat} {L : Nat → ByteArray} (h : Rw w g V 9 (tX L)) : VRw w g V L :=
  ⟨_, h, fun v hv => (cell_of_row w g v _ 9 _ h).symm.trans (h.cell v hv)⟩
section
variable {K M C V cnt : Nat} {es : List (ByteArray × Nat)} {s : ByteArray}
end
end Go.Proofs.YtadinjaocnlglaaGreatDoor
namespace Go.Proofs.YtadinjaocnlglaaGreatDoor
open Go.RowKit
set_option maxRecDepth 100000
set_option maxHeartbeats 4000000
end Go.Proofs.YtadinjaocnlglaaGreatDoor
namespace Go.Proofs.YtadinjaocnlglaaGreatDoor
open Go.RowKit
set_option maxRecDepth 100000
set_option maxHeartbeats 4000000
end Go.Proofs.YtadinjaocnlglaaGreatDoor
