/-
  The walk of vaultkeep's turned.
  The walk of vaultkeep's partly.
-/
import Derived.Test.YtadinjaocnlglaaGreatDoorZ45
import Derived.Test.YtadinjaocnlglaaGreatDoorZ40
namespace Go.Proofs.YtadinjaocnlglaaGreatDoor
open Go.RowKit
set_option maxRecDepth 100000
set_option maxHeartbeats 4000000
def TuD (C V nb gv : Nat) (pl : Nat → Nat) (L : Nat → ByteArray) (w : World) (e : Ending) (w' : World) : Prop :=
  ∃ g c L', e = .returned (.slice (some ⟨g, 0, none⟩) V c) ∧ VRw w' g V L' ∧ Below w.heap.size w w' ∧ (L' = L ∨ ∃ n u z, u < V ∧ u * nb / V ≤ n ∧ n < (u + 1) * nb / V ∧ z.size = C ∧ L' = updT L u (wBk (L u) (pl u + (n - u * nb / V) * C) z)) ∧ (g = gv ∨ w.heap.size ≤ g)
theorem turned_any {x gf cf gp cp K M C V ns nb gv cv : Nat} {pl : Nat → Nat} {L : Nat → ByteArray} {w : World} (h : Pln x gf cf gp cp K M C V ns nb pl w) (bd : Bd K M C V ns nb pl) (hR : VRw w gv V L) (hsz : ∀ v, v < V → (L v).size = pl v + ((v + 1) * nb / V - v * nb / V) * C)
    (N t b : Int) (n0 : -9223372036854775808 ≤ N) (n1 : N ≤ 9223372036854775807) (t0 : -9223372036854775808 ≤ t) (t1 : t ≤ 9223372036854775807) (b0 : -9223372036854775808 ≤ b) (b1 : b ≤ 9223372036854775807) :
    Calls Tryz.prog 37 #[.pointer (some ⟨x, 0, none⟩), .slice (some ⟨gv, 0, none⟩) V cv, .agg #[.int .i64 N, .int .i64 t, .int .i64 b]] w (TuD C V nb gv pl L w) := by
  obtain ⟨w1, hw1⟩ : ∃ w1, w.alloc (.cells #[.int .i64 N, .int .i64 t, .int .i64 b] 92) = w1 := ⟨_, rfl⟩
  have hb1 : Below w.heap.size w w1 := by rw [← hw1]; exact (Below.refl _ _).alloc (Nat.le_refl _) _
  have hlr : w1.heap[w.heap.size]? = some (.cells #[.int .i64 N, .int .i64 t, .int .i64 b] 92 (0, 0)) := by rw [← hw1]; exact heap_alloc_new _ _
  have v1 := bd.v1
  have v5 := bd.v5
  have c8 := bd.c8
  have c1 := bd.c1
  have nb5 := bd.bnb
  have h1 := h.below (h.lt v1) hb1
  have r1 := hR.kept (hb1.block gv hR.lt)
  have l0 : w1.cell? ⟨w.heap.size, 0, none⟩ = some (.int .i64 N) := cell_of_row _ _ _ _ 92 _ hlr
  have l1 : w1.cell? ⟨w.heap.size, 1, none⟩ = some (.int .i64 t) := cell_of_row _ _ _ _ 92 _ hlr
  have l2 : w1.cell? ⟨w.heap.size, 2, none⟩ = some (.int .i64 b) := cell_of_row _ _ _ _ 92 _ hlr
  have c5 : w1.cell? ⟨x, 5, none⟩ = some (.int .i64 nb) := cell_of_row _ _ _ _ 84 _ h1.row
  have HP1 : Hid (Pln x gf cf gp cp K M C V ns nb pl w1) := h1
  have HR1 : Hid (VRw w1 gv V L) := r1
  have HB1 : Hid (Below w.heap.size w w1) := hb1
  have HS : Hid _ := hsz
  have HBD : Hid _ := bd
  obtain ⟨lb, hlb⟩ : ∃ lb, w.heap.size = lb := ⟨_, rfl⟩
  rw [hlb] at l0 l1 l2
  have HLB : Hid _ := hlb
  clear h hR hsz bd hb1 hlr h1 r1
  go_enter Tryz.func37, Tryz.ntmps37
  by_cases hz : nb = 0
  · have hz1 : ((nb : Int) == 0) = true := by simp [hz]
    clear hz
    go_wp2_with fail
    go_ret
    exact ⟨gv, cv, L, rfl, HR1.out, HB1.out, .inl rfl, .inl rfl⟩
  · have hz1 : ((nb : Int) == 0) = false := by simp [hz]
    have hnb0 : 0 < nb := by omega
    clear hz
    have HPN : Hid (∀ W, Calls Tryz.prog 54 #[.int .i64 N, .int .i64 nb] W fun e w' => e = .returned (.int .i64 (pk N nb)) ∧ w' = W) := fun W => pick_at N nb nb W rfl hnb0 (by omega) n0 n1
    have HPT : Hid (∀ W, Calls Tryz.prog 54 #[.int .i64 t, .int .i64 C] W fun e w' => e = .returned (.int .i64 (pk t C)) ∧ w' = W) := fun W => pick_at t C C W rfl c1 (by omega) t0 t1
    have HPB : Hid (∀ W, Calls Tryz.prog 54 #[.int .i64 b, .int .i64 255] W fun e w' => e = .returned (.int .i64 (pk b 255)) ∧ w' = W) := fun W => pick_at b 255 255 W rfl (by omega) (by omega) b0 b1
    have hnl := pk_lt N nb hnb0
    have htl := pk_lt t C c1
    have hbl := pk_lt b 255 (by omega)
    obtain ⟨n, hn⟩ : ∃ n, pk N nb = n := ⟨_, rfl⟩
    rw [hn] at HPN hnl
    obtain ⟨i, hi⟩ : ∃ i, pk t C = i := ⟨_, rfl⟩
    rw [hi] at HPT htl
    obtain ⟨y, hy⟩ : ∃ y, pk b 255 = y := ⟨_, rfl⟩
    rw [hy] at HPB hbl
    clear hn hi hy n0 n1 t0 t1 b0 b1
    obtain ⟨u, hu, hu1, hu2⟩ := in_range nb V n V (by rw [Nat.mul_div_cancel_left _ (by omega)]; exact hnl)
    have HU : Hid (u * nb / V ≤ n ∧ n < (u + 1) * nb / V) := ⟨hu1, hu2⟩
    have hfit : pl u + (n - u * nb / V) * C + C ≤ (L u).size := by
      have e1 := HS.out u hu
      rw [e1]
      generalize u * nb / V = A at hu1 ⊢
      generalize (u + 1) * nb / V = E at hu2 ⊢
      have e4 : (n - A + 1) * C ≤ (E - A) * C := Nat.mul_le_mul_right _ (by omega)
      rw [Nat.succ_mul] at e4
      omega
    have hLs : (L u).size ≤ 1000000000 := by
      have e1 := HS.out u hu
      have e2 := HBD.out.bpl u hu
      have e3 := rng_top (nb := nb) (v := u + 1) (by omega : 1 ≤ V) (by omega)
      rw [e1]
      generalize u * nb / V = A
      generalize (u + 1) * nb / V = E at e3 ⊢
      have e4 : (E - A) * C ≤ 1000 * 8 := Nat.mul_le_mul (by omega) c8
      omega
    have HFT : Hid _ := hfit
    have HLS : Hid _ := hLs
    have hpb := HBD.out.bpl u hu
    have HBK : Hid (∀ j, _) := fun j => block_any x gf cf gp cp K M C V ns nb n u gv cv pl L (w1.drewN j) (HP1.out.kept (fun _ _ => rfl)) (by omega) (by omega) (by omega) hu hu1 hu2 (by omega) (fun v hv => VRw.cell (VRw.drewN HR1.out j) hv) hfit
    have hbs : (bkO (L u) (pl u) C (n - u * nb / V)).size = C := by unfold bkO; rw [ByteArray.size_extract]; omega
    obtain ⟨bk, hbk⟩ : ∃ bk, bkO (L u) (pl u) C (n - u * nb / V) = bk := ⟨_, rfl⟩
    rw [hbk] at HBK hbs
    clear hbk hu1 hu2 hfit hLs hpb
    go_wp2_with fail
    clear hw1 hlb
    go_quiet (first | (go_at_call 54; exact Calls.quiet_of_same (HPN.out _)))
    go_wp2_with fail
    refine Calls.mono (HBK.out _) ?_
    rintro e w2 ⟨rfl, m2, hw2⟩
    rw [World.drewN_drewN] at hw2
    replace l1 : w2.cell? ⟨lb, 1, none⟩ = some (.int .i64 t) := by rw [hw2]; exact l1
    replace l2 : w2.cell? ⟨lb, 2, none⟩ = some (.int .i64 b) := by rw [hw2]; exact l2
    have HP2 : Hid (Pln x gf cf gp cp K M C V ns nb pl w2) := by show Pln _ _ _ _ _ _ _ _ _ _ _ _ _; rw [hw2]; exact HP1.out.kept (fun _ _ => rfl)
    have HR2 : Hid (VRw w2 gv V L) := by show VRw _ _ _ _; rw [hw2]; exact VRw.drewN HR1.out _
    have HB2 : Hid (Below w.heap.size w w2) := by show Below _ _ _; rw [hw2]; exact below_dN HB1.out _
    clear hw2 l0 c5 HP1 HR1 HB1 HBK HPN
    go_wp2_with fail
    refine Calls.mono (HPT.out _) ?_
    rintro e w3 ⟨rfl, rfl⟩
    have hil : (i : Int) < (bk.size : Int) := by omega
    have hiu : i < bk.size := by omega
    have u1 : IntKind.i64.wrap (1 + (y : Int)) = 1 + (y : Int) := by rw [IntKind.wrap_i64]; omega
    go_wp2_with fail
    go_quiet (first | (go_at_call 54; exact Calls.quiet_of_same (HPB.out _)))
    go_wp2_with fail
    generalize bits BinOp.xor IntKind.u8 _ _ = X
    obtain ⟨W4, hW4⟩ : ∃ W4, w3.drewN nq = W4 := ⟨_, rfl⟩
    have HP4 : Hid (Pln x gf cf gp cp K M C V ns nb pl W4) := by show Pln _ _ _ _ _ _ _ _ _ _ _ _ _; rw [← hW4]; exact HP2.out.kept (fun _ _ => rfl)
    have HR4 : Hid (VRw W4 gv V L) := by show VRw _ _ _ _; rw [← hW4]; exact VRw.drewN HR2.out _
    have HB4 : Hid (Below w.heap.size w W4) := by show Below _ _ _; rw [← hW4]; exact below_dN HB2.out _
    rw [hW4]
    clear hW4 l1 l2 HP2 HR2 HB2 HPT HPB u1
    obtain ⟨W5, hW5⟩ : ∃ W5, (W4.alloc (.cells #[.int .u8 X] 5)).drew = W5 := ⟨_, rfl⟩
    have hb5 : Below W4.heap.size W4 W5 := by rw [← hW5]; exact ((Below.refl _ _).alloc (Nat.le_refl _) _).drew
    have HP5 : Hid (Pln x gf cf gp cp K M C V ns nb pl W5) := HP4.out.below (HP4.out.lt v1) hb5
    have HR5 : Hid (VRw W5 gv V L) := VRw.kept HR4.out (hb5.block gv (VRw.lt HR4.out))
    have HB5 : Hid (Below w.heap.size w W5) := HB4.out.trans (hb5.mono HB4.out.size)
    have hcell : W5.cell? ⟨W4.heap.size, 0, none⟩ = some (.int .u8 X) := by
      rw [← hW5]
      have h0 : (W4.alloc (.cells #[.int .u8 X] 5)).cell? ⟨W4.heap.size, 0, none⟩ = some (.int .u8 X) := cell_of_row _ _ _ _ 5 _ (heap_alloc_new W4 _)
      exact h0
    have hcv := run_convert_bytes_arg (P := Tryz.prog) W5 165 5 Tryz.underlying165 Tryz.underlying5 W4.heap.size 0 1 1 [X] rfl (fun j hj => by
      obtain rfl : j = 0 := by omega
      exact hcell) 9 Tryz.underlying9
    obtain ⟨s1, hs1⟩ : ∃ s1, strOfNums [X] = s1 := ⟨_, rfl⟩
    have hs1z : s1.size = 1 := by rw [← hs1, strOfNums_size]; rfl
    rw [hs1] at hcv
    have hzz : (bk.extract 0 i ++ s1 ++ bk.extract (i + 1) C).size = C := by
      rw [ByteArray.size_append, ByteArray.size_append, ByteArray.size_extract, ByteArray.size_extract, hs1z]
      omega
    have HZZ : Hid _ := hzz
    have HWT : Hid _ := with_any x gf cf gp cp K M C V ns nb n u gv cv pl L (bk.extract 0 i ++ s1 ++ bk.extract (i + 1) C) W5 HP5.out (by omega) (by omega) (by omega) hu HU.out.1 HU.out.2 hzz HR5.out HFT.out HLS.out
    have k1 : (0 : Int) ≤ (i : Int) := by omega
    have k2 : (i : Int) ≤ (C : Int) := by omega
    have k3 : (0 : Int) ≤ (i : Int) + 1 := by omega
    have k4 : (i : Int) + 1 ≤ (C : Int) := by omega
    have k5 : IntKind.i64.wrap ((i : Int) + 1) = (i : Int) + 1 := by rw [IntKind.wrap_i64]; omega
    have k6 : ((i : Int) + 1).toNat = i + 1 := by omega
    have k7 : min i C = i := by omega
    have HB5' : Hid _ := hb5
    clear hs1 hzz hb5 hcell
    go_region_with (go_at_call 78; refine Calls.mono HWT.out ?_; rintro e w7 ⟨g, c, rfl, hR7, hb7, hg7⟩)
    have HR7 : Hid _ := hR7
    have HB7 : Hid (Below w.heap.size w w7) := HB5.out.trans (hb7.mono HB5.out.size)
    have HG7 : Hid (w.heap.size ≤ g) := Nat.le_trans HB5.out.size hg7
    clear hR7 hb7 hg7
    go_wp2_with fail
    go_ret
    exact ⟨g, c, _, rfl, HR7.out, HB7.out, .inr ⟨n, u, _, hu, HU.out.1, HU.out.2, HZZ.out, rfl⟩, .inr HG7.out⟩
end Go.Proofs.YtadinjaocnlglaaGreatDoor
namespace Go.Proofs.YtadinjaocnlglaaGreatDoor
open Go.RowKit
set_option maxRecDepth 100000
set_option maxHeartbeats 4000000
theorem map_inj {α : Type} {A B : Nat → α} {n m : Nat} (h : (List.range n).map A = (List.range m).map B) : n = m ∧ ∀ i, i < n → A i = B i := by
  have hl : n = m := by have := congrArg List.length h; simpa using this
  subst hl
  refine ⟨rfl, fun i hi => ?_⟩
  have := congrArg (fun l => l[i]?) h
  simpa [hi] using this
theorem same_zero (a b : Option Addr) (c d : Nat) (w : World) : Calls Tryz.prog 18 #[.slice a 0 c, .slice b 0 d] w fun e w' => e = .returned (.bool true) ∧ Below w.heap.size w w' := by
  go_enter Tryz.func18, Tryz.ntmps18
  go_wp2
  go_loopw [5] (fun iv wr => iv = .int .i64 0 ∧ wr = w) (fun _ _ => 0)
  case atStart => exact ⟨rfl, rfl⟩
  case round =>
    obtain ⟨rfl, rfl⟩ := hrel
    go_wp2
    go_ret
    exact ⟨rfl, Below.refl _ _⟩
theorem same_own (A B : Nat → ByteArray) (n b1 b2 : Nat) (v1 v2 : Value) (w : World) (hn : n ≤ 1000) (h1 : w.ownsRow b1 9 1 v1 n (tV A n)) (h2 : w.ownsRow b2 9 1 v2 n (tV B n)) (h : ∀ i, i < n → A i = B i) :
    Calls Tryz.prog 18 #[v1, v2] w fun e w' => e = .returned (.bool true) ∧ Below w.heap.size w w' := by
  rcases Nat.eq_zero_or_pos n with h0 | h0
  · subst h0
    obtain ⟨a, c, rfl⟩ := own_shape h1
    obtain ⟨a', c', rfl⟩ := own_shape h2
    exact same_zero a a' c c' w
  · obtain ⟨g1, c1, rfl, _, _, k1⟩ := own_row9 h1 h0
    obtain ⟨g2, c2, rfl, _, _, k2⟩ := own_row9 h2 h0
    exact same_any A B n g1 c1 g2 c2 w hn k1 k2 h
def ouP (fi : Nat → Bool) (F : Nat → Ob) (n : Nat) : List Ob := ((List.range n).filter (fun j => fi j)).map F
def loP (fi : Nat → Bool) (F : Nat → Ob) (n : Nat) : List ByteArray := ((List.range n).filter (fun j => !fi j)).map (fun j => (F j).1)
theorem ouP_yes {fi : Nat → Bool} {F : Nat → Ob} {n : Nat} (h : fi n = true) : ouP fi F (n + 1) = ouP fi F n ++ [F n] ∧ loP fi F (n + 1) = loP fi F n := by
  unfold ouP loP
  rw [List.range_succ, List.filter_append, List.filter_append]
  simp [h]
theorem ouP_no {fi : Nat → Bool} {F : Nat → Ob} {n : Nat} (h : fi n = false) : ouP fi F (n + 1) = ouP fi F n ∧ loP fi F (n + 1) = loP fi F n ++ [(F n).1] := by
  unfold ouP loP
  rw [List.range_succ, List.filter_append, List.filter_append]
  simp [h]
theorem outL_P {kt : Nat → Int} {T : TT} {bl : Nat → ByteArray} {F : Nat → Ob} {q : Nat} (hes : T.L.es = esF F q) (hob : ∀ j, j < q → finJ kt T bl j = true → unO kt T bl j = F j) : outL kt T bl T.L.es.length = ouP (finJ kt T bl) F q ∧ losL kt T bl T.L.es.length = loP (finJ kt T bl) F q := by
  have hl : T.L.es.length = q := by rw [hes, esF_len]
  unfold outL losL ouP loP
  rw [hl]
  refine ⟨List.map_congr_left (fun j hj => ?_), List.map_congr_left (fun j hj => ?_)⟩
  · obtain ⟨h1, h2⟩ := List.mem_filter.1 hj
    exact hob j (List.mem_range.1 h1) h2
  · obtain ⟨h1, h2⟩ := List.mem_filter.1 hj
    rw [hes]
    exact (esF_get F q j (List.mem_range.1 h1)).1
theorem partly_any (kt : Nat → Int) (B v k g p q f : Nat) (T : TT) (un : Value) (ul : List Nat) (rd : Nat → Bool) (bl : Nat → ByteArray) (F : Nat → Ob) (q0 lc : Nat) (la : Option Addr) (x gf cf gp cp K M C V ns nb : Nat) (pl : Nat → Nat) (sl : List Nat) (sa : Option Addr) (sc : Nat) (w : World)
    (hK : VK kt B v k g p q f T un ul rd bl w) (hT : Told1 T) (hle : T.L.es.length ≤ 16 ∧ lenE T.L.es ≤ 4096) (hG : Gd kt w) (hE : w.cell? ⟨0, 0, none⟩ = some (.iface 376 (rt 63))) (hB : B ≤ w.heap.size) (h2 : v ≠ 2) (h0 : v ≠ 0) (hq0n : q ≠ 0) (hf0n : f ≠ 0)
    (hP : Pln x gf cf gp cp K M C V ns nb pl w) (hV1 : 1 ≤ V) (hK1 : 1 ≤ K) (hK2 : K ≤ 5) (hC1 : 1 ≤ C) (hC2 : C ≤ 8) (hq : q0 ≤ 5) (hS : Srt q0 F)
    (hL : ∀ i, i < q0 → ∃ g, la = some ⟨g, 0, none⟩ ∧ w.cell? ⟨g, i * 2, none⟩ = some (.string (F i).1) ∧ w.cell? ⟨g, i * 2 + 1, none⟩ = some (.string (F i).2)) (hes : T.L.es = esF F q0) (hI : IR w sa sl) (hsl : sl.length ≤ 1000000)
    (hfin : ∀ j, j < q0 → hitB (K * C) (lenE ((esF F q0).take j)) (lenE ((esF F q0).take j) + (F j).2.size) sl = !finJ kt T bl j) (hob : ∀ j, j < q0 → finJ kt T bl j = true → unO kt T bl j = F j) :
    Calls Tryz.prog 42 #[.pointer (some ⟨v, 0, none⟩), .pointer (some ⟨x, 0, none⟩), .slice la q0 lc, .slice sa sl.length sc] w fun e w' => e = .returned (.bool true) ∧ Fr (Q3 q f v) w w' := by
  have hsm := sm_le hS
  have HLN : Hid (∀ j, j < q0 → lenE ((esF F q0).take (j + 1)) = lenE ((esF F q0).take j) + (F j).2.size ∧ lenE ((esF F q0).take j) + (F j).2.size ≤ 60) := fun j hj => by
    have e := take_len (esF F q0) j (by rw [esF_len]; exact hj)
    rw [(esF_get F q0 j hj).2] at e
    refine ⟨e, ?_⟩
    rw [← e]
    have h1 := lenE_take_le (esF F q0) (j + 1)
    rw [← sm_size] at h1
    omega
  obtain ⟨eO, eL⟩ := outL_P (kt := kt) (bl := bl) hes hob
  have HEO : Hid _ := eO
  have HEL : Hid _ := eL
  have HK : Hid (VK kt B v k g p q f T un ul rd bl w) := hK
  have HT : Hid _ := hT
  have HLE : Hid _ := hle
  have HG : Hid _ := hG
  have HER : Hid _ := hE
  have hlt := hK.lt
  have HHI : Hid (∀ W, Below w.heap.size w W → ∀ i, i < q0 → Calls Tryz.prog 81 #[.pointer (some ⟨x, 0, none⟩), .int .i64 (lenE ((esF F q0).take i) : Nat), .int .i64 (lenE ((esF F q0).take i) + (F i).2.size : Nat), .slice sa sl.length sc] W fun e w' => e = .returned (.bool (!finJ kt T bl i)) ∧ ∃ m, w' = W.drewN m) := fun W hW i hi => by
    rw [← hfin i hi]
    exact hit_any x gf cf gp cp K M C V ns nb _ _ pl sl sa sc W (hP.below (hP.lt hV1) hW) hK1 hK2 hC1 hC2 (by have := (HLN.out i hi).2; omega) hsl (fun j hj => by
      obtain ⟨gg, e, hc⟩ := hI j hj
      exact ⟨gg, e, (hW.cell (p := ⟨gg, j, none⟩) (block_lt_of_cell hc)).trans hc⟩)
  have HLC : Hid (∀ W, Below w.heap.size w W → ∀ i, i < q0 → ∃ g, la = some ⟨g, 0, none⟩ ∧ W.cell? ⟨g, i * 2, none⟩ = some (.string (F i).1) ∧ W.cell? ⟨g, i * 2 + 1, none⟩ = some (.string (F i).2)) := fun W hW i hi => by
    obtain ⟨gg, e, c1, c2⟩ := hL i hi
    exact ⟨gg, e, (hW.cell (p := ⟨gg, i * 2, none⟩) (block_lt_of_cell c1)).trans c1, (hW.cell (p := ⟨gg, i * 2 + 1, none⟩) (block_lt_of_cell c2)).trans c2⟩
  obtain ⟨fi, hfi⟩ : ∃ fi, finJ kt T bl = fi := ⟨_, rfl⟩
  rw [hfi] at HEO HEL HHI
  clear eO eL hK hT hle hG hE hP hL hI hfin hob hfi hsm
  go_enter Tryz.func42, Tryz.ntmps42
  go_wp2_with fail
  go_loopw [9, 10, 11, 12] (fun ov lv fv iv wr => ∃ (i : Nat) (vo vl : Value) (A : Nat → Ob) (n : Nat) (H : Nat → ByteArray) (m : Nat), i ≤ q0 ∧ iv = .int .i64 i ∧ fv = .int .i64 (lenE ((esF F q0).take i) : Nat) ∧ vo = ov ∧ vl = lv ∧ n ≤ i ∧ m ≤ i ∧ OwnF wr w.heap.size vo n A ∧ objs A n = ouP fi F i ∧ wr.ownsRow w.heap.size 9 1 vl m (tV H m) ∧ texL H m = loP fi F i ∧ Below w.heap.size w wr) (fun _ _ _ iv _ => q0 - (intOf iv).toNat)
  case atStart => exact ⟨0, _, _, fun _ => (⟨#[]⟩, ⟨#[]⟩), 0, fun _ => ⟨#[]⟩, 0, by omega, rfl, by simp [lenE], rfl, rfl, by omega, by omega, ⟨by simp [objF], .inl ⟨rfl, rfl⟩⟩, rfl, ⟨rfl, .inl ⟨rfl, rfl⟩⟩, rfl, Below.refl _ _⟩
  case round =>
    obtain ⟨i, vo, vl, A, n, H, m, hi, rfl, rfl, rfl, rfl, hn, hm, hO, hOe, hL, hLe, hb⟩ := hrel
    have HO : Hid (OwnF wr w.heap.size vo n A) := hO
    have HOE : Hid _ := hOe
    have HL : Hid (wr.ownsRow w.heap.size 9 1 vl m (tV H m)) := hL
    have HLE2 : Hid _ := hLe
    have HB : Hid (Below w.heap.size w wr) := hb
    clear hO hOe hL hLe hb
    obtain ⟨ao, co, hvo⟩ := own_shape HO.out
    obtain ⟨al, cl, hvl⟩ := own_shape HL.out
    subst hvo hvl
    by_cases hlt2 : i < q0
    · have hin : (i : Int) < (q0 : Int) := by omega
      obtain ⟨gl, hla, y0, y1⟩ := HLC.out wr HB.out i hlt2
      subst hla
      have hh := HHI.out wr HB.out i hlt2
      obtain ⟨l1, l2⟩ := HLN.out i hlt2
      obtain ⟨S, hS1⟩ : ∃ S, (F i).2.size = S := ⟨_, rfl⟩
      obtain ⟨fr, hfr⟩ : ∃ fr, lenE ((esF F q0).take i) = fr := ⟨_, rfl⟩
      rw [hfr, hS1] at l1 l2 hh
      rw [hfr]
      obtain ⟨to_, hto⟩ : ∃ to_, fr + S = to_ := ⟨_, rfl⟩
      rw [hto] at l1 l2 hh
      have e1 : (fr : Int) + (S : Int) = (to_ : Int) := by omega
      have HH : Hid _ := hh
      have HL1 : Hid _ := l1
      obtain ⟨fb, hfb⟩ : ∃ fb, fi i = fb := ⟨_, rfl⟩
      rw [hfb] at HH
      have HFB : Hid _ := hfb
      clear hh l1 hfr hto hfb
      go_wp2_with fail
      refine Calls.mono HH.out ?_
      rintro e w1 ⟨rfl, m1, hw1⟩
      have HO1 : Hid (OwnF w1 w.heap.size (.slice ao n co) n A) := by show OwnF _ _ _ _ _; rw [hw1]; exact own_kept HO.out (fun _ _ => rfl)
      have HL1' : Hid (w1.ownsRow w.heap.size 9 1 (.slice al m cl) m (tV H m)) := by show World.ownsRow _ _ _ _ _ _ _; rw [hw1]; exact own_kept HL.out (fun _ _ => rfl)
      have HB1 : Hid (Below w.heap.size w w1) := by show Below _ _ _; rw [hw1]; exact below_drewN HB.out m1
      replace y0 : w1.cell? ⟨gl, i * 2, none⟩ = some (.string (F i).1) := by rw [hw1]; exact y0
      replace y1 : w1.cell? ⟨gl, i * 2 + 1, none⟩ = some (.string (F i).2) := by rw [hw1]; exact y1
      clear hw1 HO HL HB HH
      cases fb
      · obtain ⟨o1, o2⟩ := ouP_no (F := F) HFB.out
        obtain ⟨v', w2, hr, ho, hgr, _⟩ := own_more HL1'.out HB1.out.size (by omega) (F i).1
        have HRUN : Hid _ := hr
        have hbA : Below w1.heap.size w1 (w1.alloc (.cells #[.string (F i).1] 9)) := (Below.refl _ _).alloc (Nat.le_refl _) _
        have HB3 : Hid (Below w.heap.size w w2) := (HB1.out.alloc HB1.out.size _).grown hgr (by simp; have := HB1.out.size; omega) (fun y hy => own_ge HL1'.out y hy)
        have HO3 : Hid (OwnF w2 w.heap.size (.slice ao n co) n A) := own_kept (own_below HO1.out hbA) (fun y hy => hgr.block y (own_lt (own_below HO1.out hbA) y hy) (fun e => by
          obtain ⟨c1, k1⟩ := own_type (own_below HO1.out hbA) y hy
          obtain ⟨c2, k2⟩ := own_type (own_below HL1'.out hbA) y e.symm
          exact row_ne k1 k2 (by decide) rfl))
        have HL3 : Hid _ := ho
        have HOE3 : Hid (objs A n = ouP fi F (i + 1)) := by show _ = _; rw [o1]; exact HOE.out
        have HLE3 : Hid (texL (fun j => if j = m then (F i).1 else H j) (m + 1) = loP fi F (i + 1)) := by show _ = _; rw [texL_more, HLE2.out, o2]
        obtain ⟨al', cl', hvl'⟩ := own_shape ho
        subst hvl'
        clear hr ho hgr hbA o1 o2
        go_wp2_with (at_builtin; refine wpList_app rfl (.tmp 40) (.tmp 46) 42 rfl _ _ _ (by simp [Act.eval]) (by simp [Act.eval]) _ HRUN.out ?_)
        go_roundw
        case rel => exact ⟨i + 1, _, _, A, n, _, m + 1, by omega, by go_num, by rw [HL1.out], rfl, rfl, by omega, by omega, HO3.out, HOE3.out, HL3.out, HLE3.out, HB3.out⟩
        case measure => simp [intOf]; omega
      · obtain ⟨o1, o2⟩ := ouP_yes (F := F) HFB.out
        obtain ⟨v', w2, hr, ho, hgr⟩ := own_obj HO1.out HB1.out.size (by omega) (F i).1 (F i).2
        have HRUN : Hid _ := hr
        have hbA : Below w1.heap.size w1 (w1.alloc (.cells #[.string (F i).1, .string (F i).2] 72)) := (Below.refl _ _).alloc (Nat.le_refl _) _
        have HB3 : Hid (Below w.heap.size w w2) := (HB1.out.alloc HB1.out.size _).grown hgr (by simp; have := HB1.out.size; omega) (fun y hy => own_ge HO1.out y hy)
        have HL3 : Hid (w2.ownsRow w.heap.size 9 1 (.slice al m cl) m (tV H m)) := own_kept (own_below HL1'.out hbA) (fun y hy => hgr.block y (own_lt (own_below HL1'.out hbA) y hy) (fun e => by
          obtain ⟨c1, k1⟩ := own_type (own_below HL1'.out hbA) y hy
          obtain ⟨c2, k2⟩ := own_type (own_below HO1.out hbA) y e.symm
          exact row_ne k1 k2 (by decide) rfl))
        have HO3 : Hid _ := ho
        have HOE3 : Hid (objs (updF A n ((F i).1, (F i).2)) (n + 1) = ouP fi F (i + 1)) := by show _ = _; rw [objs_more, HOE.out, o1]
        have HLE3 : Hid (texL H m = loP fi F (i + 1)) := by show _ = _; rw [o2]; exact HLE2.out
        obtain ⟨ao', co', hvo'⟩ := own_shape ho
        subst hvo'
        clear hr ho hgr hbA o1 o2
        go_wp2_with (at_builtin; refine wpList_app rfl (.tmp 48) (.tmp 53) 38 rfl _ _ _ (by simp [Act.eval]) (by simp [Act.eval]) _ HRUN.out ?_)
        go_roundw
        case rel => exact ⟨i + 1, _, _, _, n + 1, H, m, by omega, by go_num, by rw [HL1.out], rfl, rfl, by omega, by omega, HO3.out, HOE3.out, HL3.out, HLE3.out, HB3.out⟩
        case measure => simp [intOf]; omega
    · have hin : ¬ (i : Int) < (q0 : Int) := by omega
      have hiq : i = q0 := by omega
      have HIQ : Hid _ := hiq
      clear hiq
      have HKr : Hid (VK kt B v k g p q f T un ul rd bl wr) := HK.out.below HB.out
      have hsz := HB.out.size
      have hh : Calls Tryz.prog 27 #[.pointer (some ⟨v, 0, none⟩)] wr fun e w' => ∃ vo er, e = .returned (.tuple #[vo, er]) ∧ VUn kt B v k g p q f T un ul rd bl wr vo er w' := vunpack_any kt B v k g p q f T un ul rd bl wr HKr.out HT.out HLE.out (HG.out.below HB.out) (Nat.le_trans hB HB.out.size) h2
      have HU : Hid _ := hh
      clear hh
      go_wp2_with fail
      refine Calls.mono HU.out ?_
      rintro e w1 ⟨vu, er, rfl, lu, Fu, nu, Hu, mu, hK1', hF1, hOu, hOue, hLu, hLue, hEr⟩
      obtain ⟨rfl, hAe⟩ : nu = n ∧ ∀ j, j < nu → Fu j = A j := map_inj (hOue.trans (HEO.out.trans ((congrArg (ouP fi F) HIQ.out).symm.trans HOE.out.symm)))
      obtain ⟨rfl, hHe⟩ : mu = m ∧ ∀ j, j < mu → Hu j = H j := map_inj (hLue.trans (HEL.out.trans ((congrArg (loP fi F) HIQ.out).symm.trans HLE2.out.symm)))
      have hQ1 : Fr (Q3 q f v) wr w1 := hF1
      have HO1 : Hid (OwnF w1 w.heap.size (.slice ao nu co) nu A) := own_hi HO.out hQ1 (by omega) (by omega) (by omega)
      have HL1 : Hid (w1.ownsRow w.heap.size 9 1 (.slice al mu cl) mu (tV H mu)) := own_hi HL.out hQ1 (by omega) (by omega) (by omega)
      have HQ1 : Hid (Fr (Q3 q f v) w w1) := (Fr.below HB.out).trans' hQ1
      have HE1 : Hid (w1.cell? ⟨0, 0, none⟩ = some (.iface 376 (rt 63))) := (HQ1.out.cell (g := 0) (block_lt_of_cell HER.out) (fun e => by rcases e with e | e | e <;> omega) 0).trans HER.out
      have HLU : Hid (w1.ownsRow wr.heap.size 9 1 lu mu (tV Hu mu)) := hLu
      have HEr : Hid (LErr er lu mu w1) := hEr
      have HHE : Hid _ := hHe
      obtain ⟨ua, uc, rfl, hUc⟩ := OwnF.cells hOu
      obtain ⟨oa, oc, hoe, hOc⟩ := OwnF.cells HO1.out
      obtain ⟨rfl, rfl⟩ : ao = oa ∧ co = oc := by simpa using hoe
      have HSO : Hid _ := sameO_any Fu A nu uc co ua ao w1 (by omega) hUc hOc hAe
      clear hK1' hF1 hOu hOue hLu hLue hEr hAe hHe hQ1 hUc hOc hoe HK HKr HU HO HL HOE HLE2 HHI HLC HLN
      go_wp2_with fail
      refine Calls.mono HSO.out ?_
      rintro e w2 ⟨rfl, hb2⟩
      have HE2 : Hid (w2.cell? ⟨0, 0, none⟩ = some (.iface 376 (rt 63))) := (hb2.cell (p := ⟨0, 0, none⟩) (block_lt_of_cell HE1.out)).trans HE1.out
      have HEr2 : Hid (LErr er lu mu w2) := by
        rcases HEr.out with h | ⟨h, eg, mg, h1, h3, h4⟩
        · exact .inl h
        · exact .inr ⟨h, eg, mg, h1, (hb2.block eg (Array.getElem?_eq_some_iff.1 h3).1).trans h3, (hb2.block mg (Array.getElem?_eq_some_iff.1 h4).1).trans h4⟩
      have HNM : Hid _ := lost_any er lu wr.heap.size mu Hu w2 HE2.out HEr2.out (own_below HLU.out hb2) (by omega)
      have HL2 : Hid (w2.ownsRow w.heap.size 9 1 (.slice al mu cl) mu (tV H mu)) := own_below HL1.out hb2
      have HQ2 : Hid (Fr (Q3 q f v) w w2) := HQ1.out.thenBelow hb2
      clear hb2 HSO
      go_wp2_with fail
      refine Calls.mono HNM.out ?_
      rintro e w3 ⟨nv, rfl, hN3, hb3⟩
      have HST : Hid _ := same_own Hu H mu w2.heap.size w.heap.size nv (.slice al mu cl) w3 (by omega) hN3 (own_below HL2.out hb3) HHE.out
      have HQ3 : Hid (Fr (Q3 q f v) w w3) := HQ2.out.thenBelow hb3
      clear hN3 hb3
      go_wp2_with fail
      refine Calls.mono HST.out ?_
      rintro e w4 ⟨rfl, hb4⟩
      have HQ4 : Hid (Fr (Q3 q f v) w w4) := HQ3.out.thenBelow hb4
      clear hb4 HST
      rcases HEr.out with ⟨hm0, her⟩ | ⟨hm0, eg, mg, her, _, _⟩
      · subst her
        subst hm0
        go_wp2_with fail
        go_ret
        exact ⟨rfl, HQ4.out⟩
      · subst her
        have hm1 : ((mu : Int) == 0) = false := by simp; omega
        go_wp2_with fail
        go_ret
        exact ⟨rfl, HQ4.out⟩
end Go.Proofs.YtadinjaocnlglaaGreatDoor
