/-
  The walk of Book's parity.
-/
import Derived.Test.YtbjgchlckmecaaaDoorQ10
namespace Go.Proofs.YtbjgchlckmecaaaDoor
open Go.RowKit
set_option maxRecDepth 100000
set_option maxHeartbeats 2000000
/-- a list of texts that came in, with its room -/
structure Arg (w : World) (a : Option Addr) (n c : Nat) (L : Nat → ByteArray) : Prop where
  cells : In w a n L
  size : n ≤ 1048576
  nil : a = none → n = 0
  len : ∀ i, i < n → (L i).size ≤ 1048576
theorem Arg.below {w w' : World} {a : Option Addr} {n c : Nat} {L : Nat → ByteArray} (h : Arg w a n c L) (hb : Below w.heap.size w w') : Arg w' a n c L := ⟨h.cells.below hb, h.size, h.nil, h.len⟩
theorem list_lv {w : World} {x g1 g2 n : Nat} {nl : Bool} {L : Nat → ByteArray} (h : LentAt w x g1 g2 n nl L) {v : Value} (hv : (v = .slice none 0 0 ∧ n = 0) ∨ v = .slice (some ⟨g1, 0, none⟩) n (n + 8)) : Lv w v n L := by
  rcases hv with hv | hv
  · exact .inl hv
  · refine .inr ⟨g1, n + 8, hv, h.all.lt, fun i hi => ?_⟩
    rw [h.all.cell i (by omega)]; simp [lF, tI, hi]
theorem LentAt.below {w w' : World} {x g1 g2 n : Nat} {nl : Bool} {L : Nat → ByteArray} (h : LentAt w x g1 g2 n nl L) (hb : Below w.heap.size w w') : LentAt w' x g1 g2 n nl L :=
  ⟨by rw [hb.block x (Array.getElem?_eq_some_iff.1 h.obj).1]; exact h.obj, h.all.below hb h.all.lt, h.want.below hb h.want.lt, h.ne⟩
theorem LentAt.drew {w : World} {x g1 g2 n : Nat} {nl : Bool} {L : Nat → ByteArray} (h : LentAt w x g1 g2 n nl L) : LentAt w.drew x g1 g2 n nl L := ⟨h.obj, h.all, h.want, h.ne⟩
theorem isNone_nil {a : Option Addr} {n : Nat} (h : a = none → n = 0) : a.isNone = true → n = 0 := fun e => h (by simpa using e)
theorem below_q {w w' : World} {q : Nat} (h : w' = w.drewN q) : Below w.heap.size w w' := by rw [h]; exact below_drewN (Below.refl _ _) q
/-- the book, and what was asked, in a box -/
structure St (W0 : World) (B xt n : Nat) (v : Value) (X : List En) (tv : Array Value) (W : World) : Prop where
  tv : W.heap[xt]? = some (.cells tv 34 (0, 0))
  bk : W.heap[B]? = some (.cells #[.int .i64 n, v, .slice none 0 0, .slice none 0 0, .slice none 0 0] 29 (0, 0))
  own : W.ownsRow W0.heap.size 54 5 v X.length (flat X)
  ok : ∀ e ∈ X, e.ok W
  bel : Below W0.heap.size W0 W
theorem St.below {W0 : World} {B xt n : Nat} {v : Value} {X : List En} {tv : Array Value} {W W' : World} (h : St W0 B xt n v X tv W) (hb : Below W.heap.size W W') : St W0 B xt n v X tv W' :=
  ⟨by rw [hb.block xt (Array.getElem?_eq_some_iff.1 h.tv).1]; exact h.tv, by rw [hb.block B (Array.getElem?_eq_some_iff.1 h.bk).1]; exact h.bk, own_below h.own hb, fun e he => (h.ok e he).kp (Kp.below hb), h.bel.trans (hb.mono h.bel.size)⟩
/-- what a step of the book leaves -/
def Kept (W0 : World) (B n : Nat) (X : List En) (w' : World) : Prop := ∃ v' x, w'.heap[B]? = some (.cells #[.int .i64 (n + 1 : Nat), v', .slice none 0 0, .slice none 0 0, .slice none 0 0] 29 (0, 0)) ∧ w'.ownsRow W0.heap.size 54 5 v' (X.length + 1) (flat (X ++ [x])) ∧ (∀ e ∈ X ++ [x], e.ok w') ∧ Below W0.heap.size W0 w'
theorem parity_step (o : Out) (L : Nat → ByteArray) (X : List En) (B n : Nat) (v : Value) (K M : Int) (a1 : Option Addr) (n1 c1 : Nat) (a2 : Option Addr) (n2 c2 : Nat) (W0 w : World) (hs : o.small)
    (hP : ∀ W v, Lv W v n1 L → PGo o K M v W) (hR : ∀ W, In W a1 n1 L → PRef o K M (.slice a1 n1 c1) W)
    (hG : W0.cell? ⟨0, 0, none⟩ = some (.iface 128 (.agg #[.pointer (some ⟨1, 40, none⟩)]))) (hA1 : Arg W0 a1 n1 c1 L) (hbel : Below W0.heap.size W0 w) (hbB : W0.heap.size ≤ B) (hn : n ≤ 1000000000) (hXl : X.length ≤ 1000000000)
    (hB : w.heap[B]? = some (.cells #[.int .i64 n, v, .slice none 0 0, .slice none 0 0, .slice none 0 0] 29 (0, 0))) (hv : w.ownsRow W0.heap.size 54 5 v X.length (flat X)) (hX : ∀ e ∈ X, e.ok w) :
    Calls Tryd.prog 4 #[.pointer (some ⟨B, 0, none⟩), .agg #[.int .i64 K, .int .i64 M, .slice a1 n1 c1, .slice a2 n2 c2]] w fun e w' => e = .returned (.bool true) ∧ Kept W0 B n X w' := by
  go_enter Tryd.func4, Tryd.ntmps4
  go_wp2_with fail
  obtain ⟨TV, hTV⟩ : ∃ TV : Array Value, TV = #[.int .i64 K, .int .i64 M, .slice a1 n1 c1, .slice a2 n2 c2] := ⟨_, rfl⟩
  obtain ⟨s0, hs0⟩ : ∃ s0, s0 = w.alloc (Obj.cells #[Value.int IntKind.i64 K, Value.int IntKind.i64 M, Value.slice a1 n1 c1, Value.slice a2 n2 c2] 34) := ⟨_, rfl⟩
  have HS0 : Hid (St W0 B w.heap.size n v X TV s0) := by
    have hb : Below w.heap.size w s0 := by rw [hs0]; exact (Below.refl _ _).alloc (Nat.le_refl _) _
    refine ⟨?_, ?_, own_below hv hb, fun e he => (hX e he).kp (Kp.below hb), hbel.trans (hb.mono hbel.size)⟩
    · rw [hs0, hTV]; exact heap_alloc_new _ _
    · rw [hb.block B (Array.getElem?_eq_some_iff.1 hB).1]; exact hB
  rw [← hs0]
  have n1b := hA1.size
  have HTV : Hid _ := hTV
  have HG : Hid (∀ W, Below W0.heap.size W0 W → W.cell? ⟨0, 0, none⟩ = some (.iface 128 (.agg #[.pointer (some ⟨1, 40, none⟩)]))) := fun W h => (h.cell (p := ⟨0, 0, none⟩) (block_lt_of_cell hG)).trans hG
  have HA1 : Hid (∀ W, Below W0.heap.size W0 W → Arg W a1 n1 c1 L) := fun W h => hA1.below h
  have HP : Hid _ := hP
  have HR : Hid _ := hR
  have HSM : Hid _ := hs
  have HBB : Hid _ := hbB
  have hbw : W0.heap.size ≤ w.heap.size := hbel.size
  clear hs0 hG hA1 hB hv hX hTV hbel hP hR hs
  obtain ⟨xt, hxt⟩ : ∃ xt, xt = w.heap.size := ⟨_, rfl⟩
  rw [← hxt] at HS0 ⊢
  have HXT : Hid _ := hxt
  clear hxt
  have LARG1 : Hid _ := HA1.out _ HS0.out.bel
  refine (lent_any L a1 n1 c1 s0 (by omega) LARG1.out.cells).mono ?_
  rintro e r1 ⟨g1, h1, rfl, kg1, kh1, hLt1, hbl1⟩
  have HLt1 : Hid (LentAt r1 s0.heap.size g1 h1 n1 a1.isNone L) := hLt1
  have HBl1 : Hid (Below s0.heap.size s0 r1) := hbl1
  have HS1 : Hid (St W0 B xt n v X TV r1) := HS0.out.below hbl1
  clear hLt1 hbl1
  have i0 : r1.cell? ⟨xt, 0, none⟩ = some (.int .i64 K) := by rw [cell_of_row _ _ _ _ 34 _ HS1.out.tv, HTV.out]; rfl
  have i1 : r1.cell? ⟨xt, 1, none⟩ = some (.int .i64 M) := by rw [cell_of_row _ _ _ _ 34 _ HS1.out.tv, HTV.out]; rfl
  go_wp2
  go_region_held3 (fun w' => w'.cell? ⟨xt, 0, none⟩ = some (.int .i64 K) ∧ w'.cell? ⟨xt, 1, none⟩ = some (.int .i64 M)) (go_keep) (first | (go_at_call 9; refine (list_any L s0.heap.size g1 h1 n1 a1.isNone _ (by omega) (by first | exact HLt1.out | exact HLt1.out.drew) (isNone_nil LARG1.out.nil)).mono ?_; rintro e r5 ⟨u2, rfl, ⟨q2, hq2⟩, hu2⟩; have j0 : r5.cell? ⟨xt, 0, none⟩ = some (.int .i64 K) := (by rw [hq2]; exact i0); have j1 : r5.cell? ⟨xt, 1, none⟩ = some (.int .i64 M) := (by rw [hq2]; exact i1); have hB5 : Below r1.heap.size r1 r5 := (by rw [hq2]; exact below_drewN (Below.refl _ _).drew _); have hS5 : St W0 B xt n v X TV r5 := HS1.out.below hB5; have hL5 : LentAt r5 s0.heap.size g1 h1 n1 a1.isNone L := HLt1.out.below hB5; have hU5 : Lv r5 u2 n1 L := list_lv hL5 hu2; clear hq2 hu2) | (go_at_call 8; refine Calls.mono (HP.out _ _ hU5) ?_; rintro e r6 ⟨x, y, rfl, hO6⟩; have hb6 := hO6.bel; have k0 : r6.cell? ⟨xt, 0, none⟩ = some (.int .i64 K) := (hb6.cell (p := ⟨xt, 0, none⟩) (block_lt_of_cell j0)).trans j0; have k1 : r6.cell? ⟨xt, 1, none⟩ = some (.int .i64 M) := (hb6.cell (p := ⟨xt, 1, none⟩) (block_lt_of_cell j1)).trans j1))
  have HLv : Hid (LentAt r6 s0.heap.size g1 h1 n1 a1.isNone L) := hL5.below hb6
  have HGH : Hid (GoHalf o r5.heap.size x y r6) := hO6.half
  have hg15 : g1 < r5.heap.size := hL5.all.lt
  have hs05 : s0.heap.size ≤ r5.heap.size := Nat.le_trans HBl1.out.size hB5.size
  have HB06 : Hid (Below s0.heap.size s0 r6) := (HBl1.out.trans (hB5.mono HBl1.out.size)).trans (hb6.mono (Nat.le_trans HBl1.out.size hB5.size))
  clear hO6 hU5 hL5 hS5 hB5 hb6 j0 j1 k0 k1 i0 i1
  go_wp2_with fail
  refine (still_any L s0.heap.size g1 h1 n1 s0.heap.size a1.isNone r6 (by omega) HLv.out (Nat.le_of_lt kg1) (Nat.ne_of_lt kg1)).mono ?_
  rintro e s1 ⟨rfl, hst1, hsq1⟩
  have HGS : Hid (GoHalf o s0.heap.size x y s1) := (HGH.out.same (fun q hq => hsq1 q (by omega))).mono hs05
  have HB1 : Hid (Below s0.heap.size s0 s1) := HB06.out.trans hst1
  have HT1 : Hid (St W0 B xt n v X TV s1) := HS0.out.below HB1.out
  clear hst1 hsq1 HGH HLv HB06 HLt1 HBl1 HS1 kg1 kh1 hg15 hs05 LARG1
  have i0 : s1.cell? ⟨xt, 0, none⟩ = some (.int .i64 K) := by rw [cell_of_row _ _ _ _ 34 _ HT1.out.tv, HTV.out]; rfl
  have i1 : s1.cell? ⟨xt, 1, none⟩ = some (.int .i64 M) := by rw [cell_of_row _ _ _ _ 34 _ HT1.out.tv, HTV.out]; rfl
  have i2 : s1.cell? ⟨xt, 2, none⟩ = some (.slice a1 n1 c1) := by rw [cell_of_row _ _ _ _ 34 _ HT1.out.tv, HTV.out]; rfl
  go_wp2_with fail
  refine Calls.mono (HR.out s1 (HA1.out _ HT1.out.bel).cells) ?_
  rintro e s2 ⟨x2, y2, rfl, hO2⟩
  have HL2 : Hid (LOut o s0.heap.size x y x2 y2 s2) := LOut.of HGS.out hO2
  have HB2 : Hid (Below s0.heap.size s0 s2) := HB1.out.trans (hO2.bel.mono HB1.out.size)
  clear hO2 HGS HB1 HT1 i0 i1 i2
  go_wp2_with fail
  refine (same_out o _ x y x2 y2 s2 HSM.out HL2.out).mono ?_
  rintro e s3 ⟨rfl, q3, hq3⟩
  have HL3 : Hid (LOut o s0.heap.size x y x2 y2 s3) := HL2.out.below (below_q hq3)
  have HB3 : Hid (Below s0.heap.size s0 s3) := HB2.out.trans ((below_q hq3).mono HB2.out.size)
  clear hq3 HL2 HB2
  go_wp2_with fail
  refine (told_out o _ x y x2 y2 s3 (HG.out _ (HS0.out.below HB3.out).bel) HL3.out).mono ?_
  rintro e s4 ⟨rfl, hb4⟩
  have HL4 : Hid (LOut o s0.heap.size x y x2 y2 s4) := HL3.out.below hb4
  have HB4 : Hid (Below s0.heap.size s0 s4) := HB3.out.trans (hb4.mono HB3.out.size)
  clear hb4 HL3 HB3
  have HT4 : Hid (St W0 B xt n v X TV s4) := HS0.out.below HB4.out
  go_wp2_with fail
  refine (keep_out o X B n W0.heap.size v x y x2 y2 s0 s4 HSM.out HBB.out HS0.out.bel.size HB4.out.size HT4.out.bk hn hXl HT4.out.own (Kp.below HB4.out) HL4.out).mono ?_
  rintro e s5 ⟨rfl, v', z, k1, k2, k3, k4, k5⟩
  have HF : Hid (Kept W0 B n X s5) := ⟨v', z, k1, k2, fun e he => by
    rcases List.mem_append.1 he with h | h
    · exact (HS0.out.ok e h).kp k4
    · rw [List.mem_singleton.1 h]; exact k3, HT4.out.bel.trans k5⟩
  clear k1 k2 k3 k4 k5 HT4 HL4 HB4
  go_wp2
  go_ret
  exact ⟨rfl, HF.out⟩
end Go.Proofs.YtbjgchlckmecaaaDoor
