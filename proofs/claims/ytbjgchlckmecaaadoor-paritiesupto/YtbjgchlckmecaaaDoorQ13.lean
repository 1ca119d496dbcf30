/-
  The walk of Parities.
-/
import Derived.Test.YtbjgchlckmecaaaDoorQ12
namespace Go.Proofs.YtbjgchlckmecaaaDoor
open Go.RowKit
set_option maxRecDepth 100000
/-- the i-th Code of the list -/
structure CodeAt (w : World) (b o i : Nat) (K M : Int) (a1 : Option Addr) (n1 c1 : Nat) (L : Nat → ByteArray) (a2 : Option Addr) (n2 c2 : Nat) (H : Nat → Bool) : Prop where
  f0 : w.cell? ⟨b, o + i * 4, none⟩ = some (.int .i64 K)
  f1 : w.cell? ⟨b, o + i * 4 + 1, none⟩ = some (.int .i64 M)
  f2 : w.cell? ⟨b, o + i * 4 + 2, none⟩ = some (.slice a1 n1 c1)
  f3 : w.cell? ⟨b, o + i * 4 + 3, none⟩ = some (.slice a2 n2 c2)
  arg1 : Arg w a1 n1 c1 L
  arg2 : ArgB w a2 n2 c2 H
  nil2 : a2 = none → c2 = 0
theorem restore_step (o : Out) (L : Nat → ByteArray) (H : Nat → Bool) (X : List En) (B n : Nat) (v : Value) (K M : Int) (a1 : Option Addr) (n1 c1 : Nat) (a2 : Option Addr) (n2 c2 : Nat) (W0 w : World) (hs : o.small)
    (hP : ∀ W v vb, Lv W v n1 L → Lb W vb n2 H → RGo o K M v vb W) (hR : ∀ W, In W a1 n1 L → InB W a2 n2 H → RRef o K M (.slice a1 n1 c1) (.slice a2 n2 c2) W)
    (hG : W0.cell? ⟨0, 0, none⟩ = some (.iface 128 (.agg #[.pointer (some ⟨1, 40, none⟩)]))) (hA1 : Arg W0 a1 n1 c1 L) (hA2 : ArgB W0 a2 n2 c2 H) (hz : a2 = none → c2 = 0) (hbel : Below W0.heap.size W0 w) (hbB : W0.heap.size ≤ B) (hn : n ≤ 1000000000) (hXl : X.length ≤ 1000000000)
    (hB : w.heap[B]? = some (.cells #[.int .i64 n, v, .slice none 0 0, .slice none 0 0, .slice none 0 0] 29 (0, 0))) (hv : w.ownsRow W0.heap.size 54 5 v X.length (flat X)) (hX : ∀ e ∈ X, e.ok w) :
    Calls Tryd.prog 5 #[.pointer (some ⟨B, 0, none⟩), .agg #[.int .i64 K, .int .i64 M, .slice a1 n1 c1, .slice a2 n2 c2]] w fun e w' => e = .returned (.bool true) ∧ Kept W0 B n X w' := by
  cases a2 with
  | some ad => exact restore_some o L H X B n v K M a1 n1 c1 ad n2 c2 W0 w hs hP hR hG hA1 hA2 hbel hbB hn hXl hB hv hX
  | none =>
    obtain rfl := hA2.nil rfl
    obtain rfl := hz rfl
    exact restore_none o L H X B n v K M a1 n1 c1 W0 w hs hP hR hG hA1 hA2 hbel hbB hn hXl hB hv hX
set_option maxHeartbeats 4000000 in
theorem parities_any (a0 : Option Addr) (len c0 : Nat) (w : World) (hG : w.cell? ⟨0, 0, none⟩ = some (.iface 128 (.agg #[.pointer (some ⟨1, 40, none⟩)]))) (hlen : len ≤ 1048576)
    (hT : ∀ i, i < len → ∃ b o, a0 = some ⟨b, o, none⟩ ∧ b < w.heap.size ∧ ∃ K M a1 n1 c1 L a2 n2 c2 H, CodeAt w b o i K M a1 n1 c1 L a2 n2 c2 H) :
    Calls Tryd.prog 3 #[.slice a0 len c0] w fun e w' => e = .returned (.bool true) ∧ Below w.heap.size w w' := by
  have HT : Hid _ := hT
  have HG : Hid _ := hG
  clear hT hG
  go_enter Tryd.func3, Tryd.ntmps3
  go_wp2
  obtain ⟨B, hBe⟩ : ∃ B, B = w.heap.size := ⟨_, rfl⟩
  have hB0 : (w.alloc (Obj.cells #[Value.int IntKind.i64 0, Value.slice none 0 0, Value.slice none 0 0, Value.slice none 0 0, Value.slice none 0 0] 29)).heap[B]? = some (.cells #[Value.int IntKind.i64 0, Value.slice none 0 0, Value.slice none 0 0, Value.slice none 0 0, Value.slice none 0 0] 29 (0, 0)) := by rw [hBe]; exact heap_alloc_new _ _
  have hbB : w.heap.size ≤ B := by omega
  rw [← hBe]
  have HBE : Hid _ := hBe
  have HB0 : Hid _ := hB0
  clear hBe hB0
  go_loopw [4] (fun iv wr => ∃ (i n : Nat) (X : List En) (v : Value), i ≤ len ∧ iv = .int .i64 i ∧ n = 2 * i ∧ X.length = n ∧ wr.heap[B]? = some (.cells #[.int .i64 n, v, .slice none 0 0, .slice none 0 0, .slice none 0 0] 29 (0, 0)) ∧ wr.ownsRow w.heap.size 54 5 v X.length (flat X) ∧ (∀ e ∈ X, e.ok wr) ∧ Below w.heap.size w wr) (fun iv _ => len - (intOf iv).toNat)
  case atStart => exact ⟨0, 0, [], .slice none 0 0, by omega, rfl, rfl, rfl, HB0.out, World.ownsRow_nil _ _ _ _, fun e he => by simp at he, (Below.refl _ _).alloc (Nat.le_refl _) _⟩
  case round =>
    obtain ⟨i, n, X, v, hi, rfl, hn2, hXi, hBk, hOwn, hOk, hBel⟩ := hrel
    have hn9 : n ≤ 2097152 := by omega
    have HN2 : Hid _ := hn2
    have HXI : Hid _ := hXi
    have HBK : Hid (wr.heap[B]? = some (.cells #[.int .i64 n, v, .slice none 0 0, .slice none 0 0, .slice none 0 0] 29 (0, 0))) := hBk
    have HOW : Hid (wr.ownsRow w.heap.size 54 5 v X.length (flat X)) := hOwn
    have HOK : Hid (∀ e ∈ X, e.ok wr) := hOk
    have HBL : Hid (Below w.heap.size w wr) := hBel
    clear hXi hBk hOwn hOk hBel hn2
    by_cases hlt : i < len
    · obtain ⟨b, o, ha, hb, K, M, a1, n1, c1, L, a2, n2, c2, H, hTA⟩ := HT.out i hlt
      subst ha
      have HTA : Hid _ := hTA
      have q0 : wr.cell? ⟨b, o + i * 4, none⟩ = some (.int .i64 K) := (HBL.out.cell (p := ⟨b, o + i * 4, none⟩) hb).trans hTA.f0
      have q1 : wr.cell? ⟨b, o + i * 4 + 1, none⟩ = some (.int .i64 M) := (HBL.out.cell (p := ⟨b, o + i * 4 + 1, none⟩) hb).trans hTA.f1
      have q2 : wr.cell? ⟨b, o + i * 4 + 2, none⟩ = some (.slice a1 n1 c1) := (HBL.out.cell (p := ⟨b, o + i * 4 + 2, none⟩) hb).trans hTA.f2
      have q3 : wr.cell? ⟨b, o + i * 4 + 3, none⟩ = some (.slice a2 n2 c2) := (HBL.out.cell (p := ⟨b, o + i * 4 + 3, none⟩) hb).trans hTA.f3
      have hi0 : (0 : Int) ≤ (i : Int) := by omega
      have hin : (i : Int) < (len : Int) := by omega
      obtain ⟨o1, ho1, hp1, hr1⟩ := par_both K M n1 L hTA.arg1.len
      have HP1 : Hid _ := parity_step o1 L X B n v K M a1 n1 c1 a2 n2 c2 w wr ho1 hp1 (fun W hW => hr1 W a1 c1 hW) HG.out hTA.arg1 HBL.out hbB (by omega) (by rw [HXI.out]; omega) HBK.out HOW.out HOK.out
      clear hTA ho1 hp1 hr1
      go_wp2_with fail
      refine Calls.mono HP1.out ?_
      rintro e w1 ⟨rfl, v1, x1, k1, k2, k3, k4⟩
      have K1 : Hid _ := k1
      have K2 : Hid (w1.ownsRow w.heap.size 54 5 v1 (X ++ [x1]).length (flat (X ++ [x1]))) := by show w1.ownsRow _ _ _ _ _ _; rw [List.length_append]; exact k2
      have K3 : Hid (∀ e ∈ X ++ [x1], e.ok w1) := k3
      have K4 : Hid (Below w.heap.size w w1) := k4
      have KL : Hid ((X ++ [x1]).length = n + 1) := by show (X ++ [x1]).length = n + 1; rw [List.length_append, HXI.out]; rfl
      clear k1 k2 k3 k4 q0 q1 q2 q3 HP1
      obtain ⟨X1, hX1⟩ : ∃ X1, X ++ [x1] = X1 := ⟨_, rfl⟩
      rw [hX1] at K2 K3 KL
      clear hX1
      have q0 : w1.cell? ⟨b, o + i * 4, none⟩ = some (.int .i64 K) := (K4.out.cell (p := ⟨b, o + i * 4, none⟩) hb).trans HTA.out.f0
      have q1 : w1.cell? ⟨b, o + i * 4 + 1, none⟩ = some (.int .i64 M) := (K4.out.cell (p := ⟨b, o + i * 4 + 1, none⟩) hb).trans HTA.out.f1
      have q2 : w1.cell? ⟨b, o + i * 4 + 2, none⟩ = some (.slice a1 n1 c1) := (K4.out.cell (p := ⟨b, o + i * 4 + 2, none⟩) hb).trans HTA.out.f2
      have q3 : w1.cell? ⟨b, o + i * 4 + 3, none⟩ = some (.slice a2 n2 c2) := (K4.out.cell (p := ⟨b, o + i * 4 + 3, none⟩) hb).trans HTA.out.f3
      obtain ⟨o2, ho2, hp2, hr2⟩ := res_both K M n1 n2 L H HTA.out.arg1.len
      have HP2 : Hid _ := restore_step o2 L H X1 B (n + 1) v1 K M a1 n1 c1 a2 n2 c2 w w1 ho2 hp2 (fun W hW hW2 => hr2 W a1 c1 a2 c2 hW hW2) HG.out HTA.out.arg1 HTA.out.arg2 HTA.out.nil2 K4.out hbB (by omega) (by rw [KL.out]; omega) K1.out K2.out K3.out
      clear ho2 hp2 hr2 K1 K2 K3 K4
      go_wp2_with fail
      refine Calls.mono HP2.out ?_
      rintro e w2 ⟨rfl, v2, x2, k1, k2, k3, k4⟩
      have K1 : Hid (w2.heap[B]? = some (.cells #[.int .i64 (n + 1 + 1 : Nat), v2, .slice none 0 0, .slice none 0 0, .slice none 0 0] 29 (0, 0))) := k1
      have K2 : Hid (w2.ownsRow w.heap.size 54 5 v2 (X1 ++ [x2]).length (flat (X1 ++ [x2]))) := by show w2.ownsRow _ _ _ _ _ _; rw [List.length_append]; exact k2
      have K3 : Hid (∀ e ∈ X1 ++ [x2], e.ok w2) := k3
      have K4 : Hid (Below w.heap.size w w2) := k4
      have KM : Hid ((X1 ++ [x2]).length = n + 1 + 1) := by show (X1 ++ [x2]).length = n + 1 + 1; rw [List.length_append, KL.out]; rfl
      clear k1 k2 k3 k4 q0 q1 q2 q3 HP2
      have HLK : Hid _ := looks_any (X1 ++ [x2]) B w.heap.size _ v2 w2 K1.out (by rw [KM.out]; omega) K2.out K3.out
      go_wp2_with fail
      refine Calls.mono HLK.out ?_
      rintro e w3 ⟨rfl, hb2⟩
      have M1 : Hid (w3.heap[B]? = some (.cells #[.int .i64 (n + 1 + 1 : Nat), v2, .slice none 0 0, .slice none 0 0, .slice none 0 0] 29 (0, 0))) := by show w3.heap[B]? = _; rw [hb2.block B (Array.getElem?_eq_some_iff.1 K1.out).1]; exact K1.out
      have M2 : Hid (w3.ownsRow w.heap.size 54 5 v2 (X1 ++ [x2]).length (flat (X1 ++ [x2]))) := own_below K2.out hb2
      have M3 : Hid (∀ e ∈ X1 ++ [x2], e.ok w3) := fun e he => (K3.out e he).kp (Kp.below hb2)
      have M4 : Hid (Below w.heap.size w w3) := K4.out.trans (hb2.mono K4.out.size)
      clear hb2 HLK K1 K2 K3 K4
      go_wp2
      go_roundw
      case rel => exact ⟨i + 1, n + 1 + 1, X1 ++ [x2], v2, by omega, by go_num, by have := HN2.out; omega, KM.out, M1.out, M2.out, M3.out, M4.out⟩
      case measure => simp [intOf]; omega
    · go_wp2
      go_ret
      exact ⟨rfl, HBL.out⟩
end Go.Proofs.YtbjgchlckmecaaaDoor
