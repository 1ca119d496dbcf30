/-
  The walk of vaultref.Digest.
-/
import Derived.Test.YtadinjaocnlglaaGreatDoorS11
import Derived.Test.YtadinjaocnlglaaGreatDoorTG
import Derived.Test.YtadinjaocnlglaaGreatDoorTK
import Derived.Test.YtadinjaocnlglaaGreatDoorTN
import Derived.Test.YtadinjaocnlglaaGreatDoorTM
import Derived.WalkKit
import Derived.WalkSpells
import Derived.WalkLawsBesides
import Derived.BigRegion
import Derived.BigQuiet
import Derived.Deep.QuietTactic
import Derived.Deep.RegionWith
import Derived.Deep.RegionLaw
import Derived.Deep.RegionHeld3
namespace Go.Proofs.YtadinjaocnlglaaGreatDoor
open Go.RowKit
theorem pressed_lit (kt : Nat → Int) (st : Nat → Int) (s : ByteArray) (w : World) (h0 : s.size = 64) (hT : Tab w 3 kt) (h3 : 4 ≤ w.heap.size) :
    Calls Tryz.prog 234 #[.agg #[.int .u32 (st 0), .int .u32 (st 1), .int .u32 (st 2), .int .u32 (st 3), .int .u32 (st 4), .int .u32 (st 5), .int .u32 (st 6), .int .u32 (st 7)], .string s] w fun e w' => ∃ y, Hid (y = press kt (wrd (iniR s)) st) ∧
      e = .returned (.agg #[.int .u32 (y 0), .int .u32 (y 1), .int .u32 (y 2), .int .u32 (y 3), .int .u32 (y 4), .int .u32 (y 5), .int .u32 (y 6), .int .u32 (y 7)]) ∧ Below w.heap.size w w' :=
  (pressed_any kt st s w h0 hT h3).mono fun _ _ h => ⟨_, rfl, h.1, h.2⟩
theorem step_append_own {P : Program} {ops : Array Oper} {o : Oper} {a : Act} {w : World} {K : Act → World → Prop} {Q : Exit → Act → World → Prop} {E : Prop}
    (hg : o.guard = none) (s x : Operand) (t : TypeId) (hop : o.op = Op.call { callee := Callee.builtin Builtin.append, args := #[s, x], argTypes := #[t, t] })
    (e : TypeId) (i : TypeInfo) (z : Value) (size bytes : Nat) (h1 : P.underlying t = some (.slice e)) (h2 : P.info? e = some i) (h3 : i.zero = some z) (h4 : i.size = size) (h5 : i.bytes = bytes) (h6 : z.cells.size = size) (h7 : 0 < size)
    (base : Nat) (v : Value) (n : Nat) (xs : List Value) (hs : a.eval s = v) (hown : w.ownsRow base e size v n xs)
    (ad : Addr) (m c : Nat) (news : List Value) (hx : a.eval x = .slice (some ad) m c) (hn : news.length = m * size) (hc : ∀ j u, news[j]? = some u → w.cell? (ad.add j) = some u) (h1c : ∀ u ∈ news, u.oneCell' = true)
    (b1 : n + m ≤ maxLen) (b2 : (n + m) * bytes ≤ 140737488355328) (hbase : base ≤ w.heap.size)
    (hK : ∀ v' w', w'.ownsRow base e size v' (n + m) (xs ++ news) → w.grownBy w' v.ownBlock → K (a.put o.dst v') w') :
    if Region.wanted o (yielded ops a.tmps) = true then Oper.wp P o a w K Q else E := by
  have hw : Region.wanted o (yielded ops a.tmps) = true := by simp [Region.wanted, hg]
  rw [if_pos hw]
  obtain ⟨v', w', hrun, r1, r2, _⟩ := run_append_own (P := P) w base t o.type e i z size bytes h1 h2 h3 h4 h5 h6 h7 v n xs hown ad m c news hn hc h1c b1 b2 hbase
  unfold Oper.wp
  simp [execOp, hop, resolve, invoke, builtin, hs, hx, hrun, Result.andThen]
  exact hK v' w' r1 r2
theorem news4 (w : World) (a b c d : Int) : ∀ j u, [Value.int .u8 a, .int .u8 b, .int .u8 c, .int .u8 d][j]? = some u → ((w.alloc (.cells #[.int .u8 a, .int .u8 b, .int .u8 c, .int .u8 d] 5)).drew).cell? ((⟨w.heap.size, 0, none⟩ : Addr).add j) = some u := by
  intro j u hj
  match j, hj with
  | 0, hj => simp at hj; subst hj; simp [Addr.add]
  | 1, hj => simp at hj; subst hj; simp [Addr.add]
  | 2, hj => simp at hj; subst hj; simp [Addr.add]
  | 3, hj => simp at hj; subst hj; simp [Addr.add]
theorem ones4 (a b c d : Int) : ∀ u ∈ [Value.int .u8 a, .int .u8 b, .int .u8 c, .int .u8 d], u.oneCell' = true := by
  intro u hu; simp at hu; rcases hu with rfl | rfl | rfl | rfl <;> rfl
theorem own_ge {w : World} {base : Nat} {e : TypeId} {size : Nat} {v : Value} {n : Nat} {xs : List Value} (h : w.ownsRow base e size v n xs) : ∀ k, v.ownBlock = some k → base ≤ k := by
  intro k hk
  rcases h.2 with ⟨h', _⟩ | ⟨g', cap', cur, h', hb, _⟩
  · rw [h'] at hk; simp [Value.ownBlock] at hk
  · rw [h'] at hk; simp [Value.ownBlock] at hk; omega
theorem grown_words {w w' : World} {g n : Nat} {t : TypeId} {f : Nat → Int} {row : Option Nat} (h : Words w g n t f) (hg : w.grownBy w' row) (hr : ∀ k, row = some k → g + 1 ≤ k) : Words w' g n t f := by
  unfold Words
  rw [hg.block g h.lt (fun e => by have := hr g e.symm; omega)]
  exact h
theorem refT_size (s : ByteArray) : (refT s).size = 64 * ((s.size + 72) / 64) := by
  unfold refT; rw [refB_size, refA_size]; unfold nz; omega
/-- the document's digest -/
def refD (kt : Nat → Int) (s : ByteArray) : ByteArray := strOfNums (tl (pcs kt (refT s) hini ((s.size + 72) / 64)) 8)
set_option maxHeartbeats 1000000 in
set_option maxRecDepth 100000 in
theorem refDigest_any (kt : Nat → Int) (s : ByteArray) (w : World) (h0 : s.size ≤ 140737488351232) (hT : Tab w 3 kt) (hH : ∀ j, j < 8 → w.cell? ⟨1, j, none⟩ = some (.int .u32 (hini j))) (h3 : 4 ≤ w.heap.size) :
    Calls Tryz.prog 192 #[.string s] w fun e w' => e = .returned (.string (refD kt s)) ∧ Below w.heap.size w w' := by
  have HT : Hid _ := hT
  have HH : Hid _ := hH
  clear hT hH
  obtain ⟨m, hm⟩ : ∃ m, m = refT s := ⟨_, rfl⟩
  obtain ⟨n, hn⟩ : ∃ n, n = (s.size + 72) / 64 := ⟨_, rfl⟩
  have HMS : Hid (m.size = 64 * n) := by rw [hm, hn]; exact refT_size s
  have hml : m.size ≤ 140737488355328 := by have := HMS.out; omega
  have HD : Hid (refD kt s = strOfNums (tl (pcs kt m hini n) 8)) := by rw [hm, hn]; rfl
  have hpd := refpad_any s w h0
  rw [← hm] at hpd
  have HPD : Hid _ := hpd
  clear hm hn hpd
  obtain ⟨x, hx⟩ : ∃ x, x = hini := ⟨_, rfl⟩
  rw [← hx] at HD HH
  clear hx
  go_enter Tryz.func192, Tryz.ntmps192
  go_wp2_with fail
  refine (Calls.mono HPD.out ?_)
  rintro e w1 ⟨rfl, hb1⟩
  have hb0 : 1 < w.heap.size := by omega
  have g0 := (hb1.cell (p := ⟨1, 0, none⟩) hb0).trans (HH.out 0 (by omega))
  have g1 := (hb1.cell (p := ⟨1, 1, none⟩) hb0).trans (HH.out 1 (by omega))
  have g2 := (hb1.cell (p := ⟨1, 2, none⟩) hb0).trans (HH.out 2 (by omega))
  have g3 := (hb1.cell (p := ⟨1, 3, none⟩) hb0).trans (HH.out 3 (by omega))
  have g4 := (hb1.cell (p := ⟨1, 4, none⟩) hb0).trans (HH.out 4 (by omega))
  have g5 := (hb1.cell (p := ⟨1, 5, none⟩) hb0).trans (HH.out 5 (by omega))
  have g6 := (hb1.cell (p := ⟨1, 6, none⟩) hb0).trans (HH.out 6 (by omega))
  have g7 := (hb1.cell (p := ⟨1, 7, none⟩) hb0).trans (HH.out 7 (by omega))
  go_wp2
  have hw1 : w.heap.size ≤ w1.heap.size := hb1.size
  have hA1 : Words (w1.alloc (Obj.cells #[Value.int IntKind.u32 (x 0), Value.int IntKind.u32 (x 1), Value.int IntKind.u32 (x 2), Value.int IntKind.u32 (x 3), Value.int IntKind.u32 (x 4), Value.int IntKind.u32 (x 5), Value.int IntKind.u32 (x 6), Value.int IntKind.u32 (x 7)] 294)) w1.heap.size 8 294 x := heap_alloc_new _ _
  have hB1 : Below w.heap.size w (w1.alloc (Obj.cells #[Value.int IntKind.u32 (x 0), Value.int IntKind.u32 (x 1), Value.int IntKind.u32 (x 2), Value.int IntKind.u32 (x 3), Value.int IntKind.u32 (x 4), Value.int IntKind.u32 (x 5), Value.int IntKind.u32 (x 6), Value.int IntKind.u32 (x 7)] 294)) := hb1.alloc hw1 _
  clear g0 g1 g2 g3 g4 g5 g6 g7 hb1
  generalize w1.heap.size = g at *
  go_loopw [5] (fun i wr => ∃ k : Nat, k ≤ n ∧ i = .int .i64 ((64 * k : Nat) : Int) ∧ Below w.heap.size w wr ∧ Words wr g 8 294 (pcs kt m x k)) (fun i _ => m.size - (intOf i).toNat)
  case atStart => exact ⟨0, by omega, rfl, hB1, hA1⟩
  case round =>
    clear hA1 hB1
    obtain ⟨k, hk, rfl, hb, hA⟩ := hrel
    by_cases hlt : k < n
    · obtain ⟨at', hat⟩ : ∃ m : Nat, m = 64 * k := ⟨_, rfl⟩
      have hle : at' + 64 ≤ m.size := by have := HMS.out; omega
      rw [← hat]
      have HAT : Hid (at' = 64 * k) := hat
      clear hat
      obtain ⟨y, hy⟩ : ∃ y, pcs kt m x k = y := ⟨_, rfl⟩
      have HY : Hid (pcs kt m x k = y) := hy
      rw [hy] at hA
      clear hy
      obtain ⟨c0, c1, c2, c3, c4, c5, c6, c7, cf⟩ := hA.cells8
      obtain ⟨q, HQ, hq, hsl⟩ : ∃ q, Hid (q = piece m k) ∧ q.size = 64 ∧ ∀ W, (Instr.slice 9 (.string m) (some (.int .i64 (at' : Int))) (some (.int .i64 ((at' : Int) + 64))) none).run Tryz.prog W = .ok (.string q) W := by
        refine ⟨piece m k, rfl, piece_size m k (by have := HAT.out; omega), fun W => ?_⟩
        rw [run_slice_string W 9 m .i64 .i64 _ _ Tryz.underlying9 (by omega) (by omega) (by omega)]
        have e1 : ((at' : Int)).toNat = 64 * k := by have := HAT.out; omega
        have e2 : ((at' : Int) + 64).toNat = 64 * k + 64 := by have := HAT.out; omega
        rw [e1, e2]; rfl
      have hwp : IntKind.i64.wrap ((at' : Int) + 64) = (at' : Int) + 64 := by rw [IntKind.wrap_i64]; omega
      have hTr : Tab wr.drew 3 kt := Tab.below HT.out hb.drew (by omega)
      have h3r : 4 ≤ wr.drew.heap.size := Nat.le_trans h3 hb.size
      have hltb : g < wr.drew.heap.size := hA.lt
      go_wp2
      go_region_with (go_at_call 234; refine (pressed_lit kt y q wr.drew hq hTr h3r).mono ?_; rintro e w' ⟨z, hz, rfl, hb'⟩; obtain ⟨d0, d1, d2, d3, d4, d5, d6, d7, df⟩ := (hA.drew.below hb' hltb).cells8)
      go_wp2
      go_roundw
      case rel =>
        have e : pcs kt m x (k + 1) = z := by
          show press kt (wrd (iniR (piece m k))) (pcs kt m x k) = z
          rw [hz.out, HY.out, HQ.out]
        refine ⟨k + 1, by omega, by have := HAT.out; go_num, ?_, ?_⟩
        · exact (hb.drew.trans (hb'.mono (Nat.le_trans hw1 (Nat.le_of_lt hltb)))).trans ((put8_below (Below.refl g _)).mono hw1)
        · rw [e]; exact put8 (hA.drew.below hb' hltb)
      case measure => have := HAT.out; have := HMS.out; simp [intOf]; omega
    · have hkn : k = n := by omega
      subst hkn
      obtain ⟨y, hy⟩ : ∃ y, pcs kt m x k = y := ⟨_, rfl⟩
      have HY : Hid (pcs kt m x k = y) := hy
      rw [hy] at hA
      clear hy
      obtain ⟨mm, hm⟩ : ∃ mm : Nat, mm = 64 * k := ⟨_, rfl⟩
      rw [← hm]
      have hms : m.size ≤ mm := by have := HMS.out; omega
      have hmd : decide (mm < m.size) = false := by simp; omega
      clear hm
      go_wp2
      obtain ⟨i0, hi, hz0, hz1, hz2⟩ := info_parts info5
      go_loopw [7, 6] (fun i v wr => ∃ k : Nat, k ≤ 8 ∧ i = .int .i64 k ∧ wr.ownsRow (g + 1) 5 1 v (4 * k) ((tl y k).map (Value.int .u8)) ∧ Below w.heap.size w wr ∧ Words wr g 8 294 y) (fun i _ _ => 8 - (intOf i).toNat)
      case atStart => exact ⟨0, by omega, rfl, World.ownsRow_nil _ _ _ _, hb, hA⟩
      case round =>
        clear hb hA
        obtain ⟨j, hj, rfl, hown, hb, hA⟩ := hrel
        by_cases hlt : j < 8
        · have c1 := hA.cell j hlt
          go_wp2
          have hm1 : 4 * j + 4 ≤ maxLen := by unfold maxLen; omega
          have hm2 : (4 * j + 4) * 1 ≤ 140737488355328 := by omega
          have hgs : g + 1 ≤ ((wr.alloc (.cells #[.int .u8 (IntKind.u8.wrap (y j / 16777216)), .int .u8 (IntKind.u8.wrap (y j / 65536)), .int .u8 (IntKind.u8.wrap (y j / 256)), .int .u8 (IntKind.u8.wrap (y j))] 5)).drew).heap.size := by have := hA.lt; show g + 1 ≤ (wr.alloc _).heap.size; simp; omega
          have hj0 : (0 : Int) ≤ (j : Int) := by omega
          have hj8 : (j : Int) < 8 := by omega
          have hne := World.new_ne wr _ c1
          go_region_held3 (fun w' => w'.cell? ⟨g, j, none⟩ = some (.int .u32 (y j))) (go_keep) (first | (refine step_append_own rfl (.tmp 28) (.tmp 48) 165 rfl 5 i0 (.int .u8 0) 1 1 Tryz.underlying165 hi hz0 hz1 hz2 rfl (by decide) (g + 1) _ (4 * j) ((tl y j).map (Value.int .u8)) (by simp [Act.eval]; rfl) (by exact (hown.alloc _).drew) ⟨wr.heap.size, 0, none⟩ 4 4 [.int .u8 (IntKind.u8.wrap (y j / 16777216)), .int .u8 (IntKind.u8.wrap (y j / 65536)), .int .u8 (IntKind.u8.wrap (y j / 256)), .int .u8 (IntKind.u8.wrap (y j))] (by simp [Act.eval]) rfl (by exact news4 _ _ _ _ _) (ones4 _ _ _ _) hm1 hm2 (by exact hgs) ?_; intro v' w' hown' hgrow; have hA' := grown_words (hA.alloc _).drew hgrow (own_ge hown); have c1' := hA'.cell j hlt))
          have hb' : Below w.heap.size w w' := ((hb.alloc hb.size _).drew).grown hgrow (by have := hb.size; show w.heap.size ≤ (wr.alloc _).heap.size; simp; omega) (fun k hk => by have := own_ge hown k hk; omega)
          have hown2 : w'.ownsRow (g + 1) 5 1 v' (4 * (j + 1)) ((tl y (j + 1)).map (Value.int .u8)) := by
            have e : 4 * (j + 1) = 4 * j + 4 := by omega
            rw [e]
            simpa [tl, IntKind.wrap_u8'] using hown'
          clear hown' hgrow hown hb c1 c1' hA hne hgs
          go_wp2
          go_roundw
          case rel =>
            exact ⟨j + 1, by omega, by go_num, hown2, hb', hA'⟩
          case measure => simp [intOf]; omega
        · have hj8 : j = 8 := by omega
          subst hj8
          rcases hown.2 with ⟨_, h'⟩ | ⟨g', cap', cur, hv, _⟩
          · omega
          · subst hv
            have hcv := run_convert_bytes_arg (P := Tryz.prog) wr 165 5 Tryz.underlying165 Tryz.underlying5 g' 0 (4 * 8) cap' (tl y 8) (tl_len y 8) (fun i hi => by
              rw [Nat.zero_add, hown.cellAt i (by omega)]
              have hl : i < (tl y 8).length := by rw [tl_len]; omega
              rw [List.getElem?_map, List.getElem?_eq_getElem hl, List.getD_eq_getElem?_getD, List.getElem?_eq_getElem hl]; rfl) 9 Tryz.underlying9
            go_wp2
            go_ret
            exact ⟨by rw [HD.out, ← HY.out]; rfl, hb⟩
end Go.Proofs.YtadinjaocnlglaaGreatDoor
