/-
  The walks of layout's cut, share, countStripes, CountBlocks.
  The walks of layout's countStripes, CountBlocks.
  The walks of layout.CheckParams (nothing refused) and of vaultkeep's params.
  The walks of draft's New, checkState (neither closed nor broken), letGo.
  A text's bytes put behind a row that is owned, inside a region that draws.
  The walk of vaultkeep's params.
-/
import Derived.Test.YtadinjaocnlglaaGreatDoorZ04
import Derived.Test.YtadinjaocnlglaaGreatDoorZ02
import Derived.Lib.AppendStr
import Derived.Deep.RegionLaw
import Derived.StillTailTactics
namespace Go.Proofs.YtadinjaocnlglaaGreatDoor
open Go.RowKit
set_option maxRecDepth 100000
set_option maxHeartbeats 1000000
/-- the i-th piece of a text -/
def pc (s : ByteArray) (z i : Nat) : ByteArray := s.extract (i * z) ((i + 1) * z)
theorem pc_size (s : ByteArray) (z c i : Nat) (hs : s.size = c * z) (hi : i < c) : (pc s z i).size = z := by
  unfold pc
  rw [ByteArray.size_extract]
  have h1 : (i + 1) * z ≤ c * z := Nat.mul_le_mul_right z (by omega)
  rw [Nat.min_eq_left (by omega), Nat.succ_mul]
  omega
def tX (S : Nat → ByteArray) : Nat → Value := fun i => .string (S i)
theorem wrap_div (p V : Nat) (hp : p ≤ 1000000000000) : wrap64 ((p : Int) / (V : Int)) = ((p / V : Nat) : Int) := by
  have h : p / V ≤ p := Nat.div_le_self p V
  rw [← Int.natCast_ediv]
  obtain ⟨q, hq⟩ : ∃ q, p / V = q := ⟨_, rfl⟩
  rw [hq] at h ⊢
  unfold wrap64
  omega
theorem share_any (V n v : Nat) (w : World) (hV : 0 < V) (hV2 : V ≤ 1000) (hn : n ≤ 100000) (hv : v ≤ 1000) :
    Calls Tryz.prog 185 #[.int .i64 V, .int .i64 n, .int .i64 v] w fun e w' => e = .returned (.tuple #[.int .i64 ((v * n / V : Nat) : Int), .int .i64 (((v + 1) * n / V : Nat) : Int)]) ∧ ∃ q, w' = w.drewN q := by
  have h1 : v * n ≤ 100000000 := Nat.le_trans (Nat.mul_le_mul hv hn) (by omega)
  have h2 : (v + 1) * n ≤ 200000000 := Nat.le_trans (Nat.mul_le_mul (Nat.add_le_add_right hv 1) hn) (by omega)
  obtain ⟨p, hp⟩ : ∃ p, v * n = p := ⟨_, rfl⟩
  obtain ⟨p2, hp2⟩ : ∃ p2, (v + 1) * n = p2 := ⟨_, rfl⟩
  have e1 : (v : Int) * (n : Int) = ((p : Nat) : Int) := by rw [← hp]; simp
  have e2 : ((v : Int) + 1) * (n : Int) = ((p2 : Nat) : Int) := by rw [← hp2]; simp
  have hV0 : ((V : Int) == 0) = false := by simp; omega
  rw [hp] at h1 ⊢
  rw [hp2] at h2 ⊢
  clear hp hp2
  have d1 := wrap_div p V (by omega)
  have d2 := wrap_div p2 V (by omega)
  go_enter Tryz.func185, Tryz.ntmps185
  go_wp2
  go_quiet (fail)
  go_wp2
  go_ret2
  refine ⟨?_, nq, rfl⟩
  show Ending.returned (.tuple #[.int .i64 (wrap64 ((p : Int) / (V : Int))), .int .i64 (wrap64 ((p2 : Int) / (V : Int)))]) = _
  rw [d1, d2]
theorem cut_any (s : ByteArray) (z c : Nat) (w : World) (hz : 0 < z) (hz2 : z ≤ 100000) (hc : c ≤ 100000) (hs : s.size = c * z) :
    Calls Tryz.prog 203 #[.string s, .int .i64 z] w fun e w' => e = .returned (.slice (some ⟨w.heap.size, 0, none⟩) c c) ∧ Rw w' w.heap.size c 9 (tX (pc s z)) ∧ Below w.heap.size w w' := by
  have hsz : s.size ≤ 10000000000 := by rw [hs]; exact Nat.le_trans (Nat.mul_le_mul hc hz2) (by omega)
  have hq0 : s.size / z = c := by rw [hs]; exact Nat.mul_div_cancel _ hz
  have hd := wrap_div s.size z (by omega)
  rw [hq0] at hd
  have hz0 : ((z : Int) == 0) = false := by simp; omega
  have hmk := run_make_row' (P := Tryz.prog) 42 9 (.string ⟨#[]⟩) 16 Tryz.underlying42 info9 rfl .i64 .i64 c (by omega) (by omega)
  have HS : Hid _ := hs
  clear hs hq0
  go_enter Tryz.func203, Tryz.ntmps203
  go_wp2
  go_loopw [14] (fun iv wr => ∃ i : Nat, i ≤ c ∧ iv = .int .i64 i ∧ Below w.heap.size w wr ∧ Rw wr w.heap.size c 9 (part' i (tX (pc s z)) (.string ⟨#[]⟩))) (fun iv _ => c - (intOf iv).toNat)
  case atStart => exact ⟨0, by omega, rfl, (Below.refl _ _).alloc (Nat.le_refl _) _, (Rw.made w c 9 (.string ⟨#[]⟩)).to (fun j _ => (part_0 _ _ j).symm)⟩
  case round =>
    obtain ⟨i, hi, rfl, hb, hR⟩ := hrel
    by_cases hlt : i < c
    · have c1 := hR.cell i hlt
      have c2 := hR.free i
      have hle : (i + 1) * z ≤ s.size := by rw [HS.out]; exact Nat.mul_le_mul_right z (by omega)
      have hll : i * z ≤ (i + 1) * z := Nat.mul_le_mul_right z (by omega)
      obtain ⟨lo, hlo⟩ : ∃ lo, i * z = lo := ⟨_, rfl⟩
      obtain ⟨up, hup⟩ : ∃ up, (i + 1) * z = up := ⟨_, rfl⟩
      have e1 : (i : Int) * (z : Int) = ((lo : Nat) : Int) := by rw [← hlo]; simp
      have e2 : ((i : Int) + 1) * (z : Int) = ((up : Nat) : Int) := by rw [← hup]; simp
      rw [hlo, hup] at hll
      rw [hup] at hle
      have HPC : Hid (pc s z i = s.extract lo up) := by show pc s z i = s.extract lo up; unfold pc; rw [hlo, hup]
      clear hlo hup
      have hsl : ∀ W, (Instr.slice 9 (.string s) (some (.int .i64 ((lo : Nat) : Int))) (some (.int .i64 ((up : Nat) : Int))) none).run Tryz.prog W = .ok (.string (s.extract lo up)) W := fun W => by
        rw [run_slice_string W 9 s .i64 .i64 _ _ Tryz.underlying9 (by omega) (by omega) (by omega), Int.toNat_natCast, Int.toNat_natCast]
      have hc' : (i : Int) < (c : Int) := by omega
      go_wp2
      go_roundw
      case rel => exact ⟨i + 1, by omega, by go_num, hb.setCell (Nat.le_refl _) _, (hR.put i _).to (fun j _ => by rw [← HPC.out, ← part_step]; rfl)⟩
      case measure => simp [intOf]; omega
    · have e : i = c := by omega
      subst e
      go_wp2
      go_ret
      exact ⟨rfl, hR.to (fun j hj => by simp [part', hj]), hb⟩
end Go.Proofs.YtadinjaocnlglaaGreatDoor
namespace Go.Proofs.YtadinjaocnlglaaGreatDoor
open Go.RowKit
set_option maxRecDepth 100000
set_option maxHeartbeats 1000000
/-- params, as a value -/
def pV (K M C V : Nat) : Value := .agg #[.int .i64 K, .int .i64 M, .int .i64 C, .int .i64 V]
/-- how many stripes -/
def nst (z len : Nat) : Nat := (len + z - 1) / z
theorem countStripes_any (K M C V len z : Nat) (w : World) (hz : K * C = z) (hz0 : 0 < z) (hz1 : z ≤ 100000) (hl : len ≤ 100000) :
    Calls Tryz.prog 197 #[.agg #[.int .i64 K, .int .i64 M, .int .i64 C, .int .i64 V], .int .i64 len] w fun e w' => e = .returned (.int .i64 (nst z len : Nat)) ∧ Below w.heap.size w w' := by
  have e1 : (K : Int) * (C : Int) = (z : Int) := by rw [← hz]; simp
  have e2 : (len : Int) + (z : Int) - 1 = ((len + z - 1 : Nat) : Int) := by omega
  have d1 : ((len : Int) + (z : Int) - 1) / (z : Int) = (((len + z - 1) / z : Nat) : Int) := by rw [e2, Int.natCast_ediv]
  have hne : ((z : Int) == 0) = false := by simp; omega
  unfold nst
  have D1 : Hid _ := d1
  clear hz e2 d1
  go_enter Tryz.func197, Tryz.ntmps197
  go_wp2
  go_ret
  refine ⟨?_, (Below.refl _ _).alloc (Nat.le_refl _) _⟩
  show Ending.returned (.int .i64 (((len : Int) + (z : Int) - 1) / (z : Int))) = _
  rw [D1.out]
theorem countBlocks_any (K M C V len z : Nat) (w : World) (hz : K * C = z) (hz0 : 0 < z) (hz1 : z ≤ 100000) (hl : len ≤ 100000) (hK : K ≤ 1000) (hM : M ≤ 1000) :
    Calls Tryz.prog 154 #[.agg #[.int .i64 K, .int .i64 M, .int .i64 C, .int .i64 V], .int .i64 len] w fun e w' => e = .returned (.int .i64 (nst z len * (K + M) : Nat)) ∧ Below w.heap.size w w' := by
  have H : Hid (∀ W, _) := fun W => countStripes_any K M C V len z W hz hz0 hz1 hl
  have hns : nst z len ≤ 200000 := Nat.le_trans (Nat.div_le_self _ _) (by omega)
  obtain ⟨n, hn⟩ : ∃ n, nst z len = n := ⟨_, rfl⟩
  rw [hn] at H hns ⊢
  have h1 : n * (K + M) ≤ 400000000 := Nat.le_trans (Nat.mul_le_mul hns (show K + M ≤ 2000 by omega)) (by omega)
  obtain ⟨r, hr⟩ : ∃ r, n * (K + M) = r := ⟨_, rfl⟩
  have e1 : (n : Int) * ((K : Int) + (M : Int)) = (r : Int) := by rw [← hr]; simp
  rw [hr] at h1 ⊢
  clear hn hr hz
  go_enter Tryz.func154, Tryz.ntmps154
  go_wp2
  obtain ⟨s0, hs0⟩ : ∃ s0, s0 = w.alloc (Obj.cells #[Value.int IntKind.i64 K, Value.int IntKind.i64 M, Value.int IntKind.i64 C, Value.int IntKind.i64 V] 23) := ⟨_, rfl⟩
  have hO : s0.heap[w.heap.size]? = some (.cells #[.int .i64 K, .int .i64 M, .int .i64 C, .int .i64 V] 23 (0, 0)) := by rw [hs0]; exact heap_alloc_new _ _
  have HB0 : Hid (Below w.heap.size w s0) := by show Below _ _ _; rw [hs0]; exact (Below.refl _ _).alloc (Nat.le_refl _) _
  rw [← hs0]
  clear hs0
  obtain ⟨x, hx⟩ : ∃ x, x = w.heap.size := ⟨_, rfl⟩
  rw [← hx] at hO ⊢
  have HX : Hid _ := hx
  clear hx
  have c0 : s0.cell? ⟨x, 0, none⟩ = some (.int .i64 K) := cell_of_row _ _ _ _ 23 _ hO
  have c1 : s0.cell? ⟨x, 1, none⟩ = some (.int .i64 M) := cell_of_row _ _ _ _ 23 _ hO
  have c2 : s0.cell? ⟨x, 2, none⟩ = some (.int .i64 C) := cell_of_row _ _ _ _ 23 _ hO
  have c3 : s0.cell? ⟨x, 3, none⟩ = some (.int .i64 V) := cell_of_row _ _ _ _ 23 _ hO
  clear hO
  go_region_held3 (fun w' => w'.cell? ⟨x, 0, none⟩ = some (.int .i64 K) ∧ w'.cell? ⟨x, 1, none⟩ = some (.int .i64 M) ∧ w'.cell? ⟨x, 2, none⟩ = some (.int .i64 C) ∧ w'.cell? ⟨x, 3, none⟩ = some (.int .i64 V)) (go_keep) (first | (go_at_call 197; refine Calls.mono (H.out _) ?_; rintro e r1 ⟨rfl, hb1⟩; have hxl := block_lt_of_cell c0; have d0 : r1.cell? ⟨x, 0, none⟩ = some (.int .i64 K) := (hb1.cell (p := ⟨x, 0, none⟩) hxl).trans c0; have d1 : r1.cell? ⟨x, 1, none⟩ = some (.int .i64 M) := (hb1.cell (p := ⟨x, 1, none⟩) hxl).trans c1; have d2 : r1.cell? ⟨x, 2, none⟩ = some (.int .i64 C) := (hb1.cell (p := ⟨x, 2, none⟩) hxl).trans c2; have d3 : r1.cell? ⟨x, 3, none⟩ = some (.int .i64 V) := (hb1.cell (p := ⟨x, 3, none⟩) hxl).trans c3))
  go_wp2
  go_ret
  have a1 : IntKind.i64.wrap ((K : Int) + (M : Int)) = (K : Int) + (M : Int) := by rw [IntKind.wrap_i64]; omega
  have a2 : IntKind.i64.wrap (r : Int) = (r : Int) := by rw [IntKind.wrap_i64]; omega
  refine ⟨?_, ?_⟩
  · show Ending.returned (.int .i64 (IntKind.i64.wrap ((n : Int) * IntKind.i64.wrap ((K : Int) + (M : Int))))) = _
    rw [a1, e1, a2]
  · have hb2 : Below s0.heap.size s0 r1 := by first | exact hb1 | exact ((Below.refl _ _).drew).trans hb1
    exact HB0.out.trans (hb2.mono HB0.out.size)
end Go.Proofs.YtadinjaocnlglaaGreatDoor
namespace Go.Proofs.YtadinjaocnlglaaGreatDoor
open Go.RowKit
set_option maxRecDepth 100000
set_option maxHeartbeats 1000000
theorem lcheck_ok (K M C V : Nat) (w : World) (hK : 1 ≤ K) (hKM : K + M ≤ 255) (hC : 1 ≤ C) (hC2 : C ≤ 64) (hV : 1 ≤ V) (hV2 : V ≤ 16) :
    Calls Tryz.prog 140 #[pV K M C V] w fun e w' => e = .returned .nilIface ∧ Below w.heap.size w w' := by
  have c1 : (1 : Int) ≤ (C : Int) := by omega
  have c2 : (C : Int) ≤ 64 := by omega
  have v1 : (1 : Int) ≤ (V : Int) := by omega
  have v2 : (V : Int) ≤ 16 := by omega
  unfold pV
  go_enter Tryz.func140, Tryz.ntmps140
  go_wp2_with fail
  refine (checkParams_ok K M _ hK hKM).mono ?_
  rintro e w' ⟨rfl, rfl⟩
  go_wp2
  go_ret
  exact ⟨rfl, (Below.refl _ _).alloc (Nat.le_refl _) _⟩
end Go.Proofs.YtadinjaocnlglaaGreatDoor
namespace Go.Proofs.YtadinjaocnlglaaGreatDoor
open Go.RowKit
set_option maxRecDepth 100000
set_option maxHeartbeats 1000000
theorem state_ok (g : Nat) (w : World) (h8 : w.cell? ⟨g, 8, none⟩ = some (.bool false)) (h11 : w.cell? ⟨g, 11, none⟩ = some (.bool false)) :
    Calls Tryz.prog 148 #[.pointer (some ⟨g, 0, none⟩)] w fun e w' => e = .returned .nilIface ∧ w' = w := by
  go_enter Tryz.func148, Tryz.ntmps148
  go_wp2
  go_ret
  exact ⟨rfl, rfl⟩
/-- a Draft's cells -/
def dC (K M C V : Nat) (obj last : Value) (n len : Nat) : Array Value :=
  #[.int .i64 K, .int .i64 M, .int .i64 C, .int .i64 V, obj, last, .int .i64 n, .int .i64 len, .bool false, .int .i64 0, .int .i64 0, .bool false]
theorem new_ok (K M C V : Nat) (w : World) (hK : 1 ≤ K) (hKM : K + M ≤ 255) (hC : 1 ≤ C) (hC2 : C ≤ 64) (hV : 1 ≤ V) (hV2 : V ≤ 16) :
    Calls Tryz.prog 89 #[pV K M C V] w fun e w' => ∃ m, e = .returned (.tuple #[.pointer (some ⟨m + 1, 0, none⟩), .nilIface]) ∧ w.heap.size ≤ m ∧ w'.heap[m]? = some (.map #[] 0) ∧ w'.heap[m + 1]? = some (.cells (dC K M C V (.map (some m)) (.pointer none) 0 0) 252 (0, 0)) ∧ w'.heap.size = m + 2 ∧ Below w.heap.size w w' := by
  have H : Hid (∀ W, _) := fun W => lcheck_ok K M C V W hK hKM hC hC2 hV hV2
  unfold pV at H ⊢
  have hmm := @run_makeMap Tryz.prog
  go_enter Tryz.func89, Tryz.ntmps89
  go_wp2_with fail
  refine Calls.mono (H.out _) ?_
  rintro e w' ⟨rfl, hb1⟩
  have hl : w.heap.size < (w.alloc (Obj.cells #[Value.int IntKind.i64 K, Value.int IntKind.i64 M, Value.int IntKind.i64 C, Value.int IntKind.i64 V] 23)).heap.size := by simp
  have hO := heap_alloc_new w (Obj.cells #[Value.int IntKind.i64 K, Value.int IntKind.i64 M, Value.int IntKind.i64 C, Value.int IntKind.i64 V] 23)
  have c0 : w'.cell? ⟨w.heap.size, 0, none⟩ = some (.int .i64 K) := (hb1.cell (p := ⟨w.heap.size, 0, none⟩) hl).trans (cell_of_row _ _ _ _ 23 _ hO)
  have c1 : w'.cell? ⟨w.heap.size, 1, none⟩ = some (.int .i64 M) := (hb1.cell (p := ⟨w.heap.size, 1, none⟩) hl).trans (cell_of_row _ _ _ _ 23 _ hO)
  have c2 : w'.cell? ⟨w.heap.size, 2, none⟩ = some (.int .i64 C) := (hb1.cell (p := ⟨w.heap.size, 2, none⟩) hl).trans (cell_of_row _ _ _ _ 23 _ hO)
  have c3 : w'.cell? ⟨w.heap.size, 3, none⟩ = some (.int .i64 V) := (hb1.cell (p := ⟨w.heap.size, 3, none⟩) hl).trans (cell_of_row _ _ _ _ 23 _ hO)
  go_wp2
  go_ret2
  refine ⟨w'.heap.size, ?_, ?_, ?_, ?_, ?_, ?_⟩
  · simp
  · have := hb1.size; omega
  · rw [heap_alloc_old _ _ (by simp)]; exact heap_alloc_new _ _
  · have := heap_alloc_new (w'.alloc (.map #[] 0)) (.cells (dC K M C V (.map (some w'.heap.size)) (.pointer none) 0 0) 252)
    simpa [dC] using this
  · simp
  · have hB : Below w.heap.size w w' := ((Below.refl _ _).alloc (Nat.le_refl _) _).trans (hb1.mono (by omega))
    exact (hB.alloc hB.size _).alloc (by have := hB.size; simp; omega) _
end Go.Proofs.YtadinjaocnlglaaGreatDoor
namespace Go.Proofs.YtadinjaocnlglaaGreatDoor
open Go.RowKit
set_option maxRecDepth 100000
set_option maxHeartbeats 1000000
theorem step_text_own {P : Program} {ops : Array Oper} {o : Oper} {a : Act} {w : World} {K : Act → World → Prop} {Q : Exit → Act → World → Prop} {E : Prop}
    (plain : o.guard = none) (dst src : Operand) (ts tt e : TypeId) (shape : o.op = Op.call { callee := Callee.builtin Builtin.append, args := #[dst, src], argTypes := #[ts, tt] })
    (bytesOf : P.underlying ts = some (.slice e)) (textOf : P.underlying tt = some .string) (info : TypeInfo) (known : P.info? e = some info) (zero : info.zero = some (.int .u8 0)) (one : info.size = 1) (one' : info.bytes = 1)
    (base n : Nat) (v : Value) (xs : List Value) (s : ByteArray) (at0 : a.eval dst = v) (at1 : a.eval src = .string s) (own : w.ownsRow base e 1 v n xs) (small : n + s.size ≤ 1000000) (old : base ≤ w.heap.size)
    (next : ∀ v' w', w'.ownsRow base e 1 v' (n + s.size) (xs ++ Lib.strCells s) → w.grownBy w' v.ownBlock → K (a.put o.dst v') w') :
    if Region.wanted o (yielded ops a.tmps) = true then Oper.wp P o a w K Q else E := by
  obtain ⟨v', w', run, r1, r2, _⟩ := Lib.run_append_own_string (P := P) w base ts tt o.type e info bytesOf textOf known zero one one' v n xs own s (by simp only [maxLen]; omega) (by omega) old
  rw [if_pos (show Region.wanted o (yielded ops a.tmps) = true by simp [Region.wanted, plain])]
  unfold Oper.wp
  simp [execOp, shape, resolve, invoke, builtin, at0, at1, run, Result.andThen]
  exact next v' w' r1 r2
end Go.Proofs.YtadinjaocnlglaaGreatDoor
namespace Go.Proofs.YtadinjaocnlglaaGreatDoor
open Go.RowKit
set_option maxRecDepth 100000
set_option maxHeartbeats 1000000
theorem pick_at (c : Int) (n : Nat) (N : Int) (w : World) (hN : N = (n : Int)) (hn : 0 < n) (hn2 : n ≤ 1000) (h0 : -9223372036854775808 ≤ c) (h1 : c ≤ 9223372036854775807) :
    Calls Tryz.prog 54 #[.int .i64 c, .int .i64 N] w fun e w' => e = .returned (.int .i64 (pk c n)) ∧ w' = w := by
  subst hN; exact pick_any c n w hn hn2 h0 h1
theorem set_heap (w : World) (g k : Nat) (v : Value) (cs : Array Value) (t : TypeId) (fr : Nat × Nat) (h : w.heap[g]? = some (.cells cs t fr)) : (w.setCell ⟨g, k, none⟩ v).heap[g]? = some (.cells (cs.setIfInBounds k v) t fr) := by
  simp [World.setCell, Array.getElem?_modify, h]
theorem set_other (w : World) (g k j : Nat) (v : Value) (h : j ≠ g) : (w.setCell ⟨g, k, none⟩ v).heap[j]? = w.heap[j]? := Below.heap_setCell _ _ _ _ (by simpa using h)
theorem still_tail_drew {P : Program} {id : Nat} {Q : Exit → Act → World → Prop} {a : Act} {w : World} {l : List Oper} (n : Nat) (hm : P.follows .mixedOrders = true) (hB : Region.lexTailB .any l.toArray n = true)
    (h : wpStill P l.toArray w.drew (fun a' => wpList P l.toArray Q (l.drop n) a' w.drew) (l.take n) a) : (Code.region id l.toArray true).wp P Q a w :=
  wp_region_still_tail n hm hB h
theorem params_any (k m c v : Int) (w : World) (k0 : -9223372036854775808 ≤ k) (k1 : k ≤ 9223372036854775807) (m0 : -9223372036854775808 ≤ m) (m1 : m ≤ 9223372036854775807) (c0 : -9223372036854775808 ≤ c) (c1 : c ≤ 9223372036854775807) (v0 : -9223372036854775808 ≤ v) (v1 : v ≤ 9223372036854775807) :
    Calls Tryz.prog 15 #[.agg #[.int .i64 k, .int .i64 m, .int .i64 c, .int .i64 v]] w fun e w' => e = .returned (pV (1 + pk k 5) (pk m 4) (1 + pk c 8) (1 + pk v 5)) ∧ Below w.heap.size w w' := by
  have P1 := pick_at k 5 5 (hN := rfl) (hn := by omega) (hn2 := by omega) (h0 := k0) (h1 := k1)
  have P2 := pick_at m 4 4 (hN := rfl) (hn := by omega) (hn2 := by omega) (h0 := m0) (h1 := m1)
  have P3 := pick_at c 8 8 (hN := rfl) (hn := by omega) (hn2 := by omega) (h0 := c0) (h1 := c1)
  have P4 := pick_at v 5 5 (hN := rfl) (hn := by omega) (hn2 := by omega) (h0 := v0) (h1 := v1)
  have HP1 : Hid _ := P1
  have HP2 : Hid _ := P2
  have HP3 : Hid _ := P3
  have HP4 : Hid _ := P4
  clear P1 P2 P3 P4
  have pk1 := pk_lt k 5 (by omega)
  have pk2 := pk_lt m 4 (by omega)
  have pk3 := pk_lt c 8 (by omega)
  have pk4 := pk_lt v 5 (by omega)
  obtain ⟨x1, e1⟩ : ∃ x : Nat, pk k 5 = x := ⟨_, rfl⟩
  obtain ⟨x2, e2⟩ : ∃ x : Nat, pk m 4 = x := ⟨_, rfl⟩
  obtain ⟨x3, e3⟩ : ∃ x : Nat, pk c 8 = x := ⟨_, rfl⟩
  obtain ⟨x4, e4⟩ : ∃ x : Nat, pk v 5 = x := ⟨_, rfl⟩
  rw [e1] at pk1 HP1 ⊢
  rw [e2] at pk2 HP2 ⊢
  rw [e3] at pk3 HP3 ⊢
  rw [e4] at pk4 HP4 ⊢
  clear e1 e2 e3 e4 k0 k1 m0 m1 c0 c1 v0 v1
  go_enter Tryz.func15, Tryz.ntmps15
  go_wp2_with fail
  obtain ⟨W, hW⟩ : ∃ W, (w.alloc (Obj.cells #[Value.int IntKind.i64 k, Value.int IntKind.i64 m, Value.int IntKind.i64 c, Value.int IntKind.i64 v] 23)).alloc (Obj.cells #[Value.int IntKind.i64 0, Value.int IntKind.i64 0, Value.int IntKind.i64 0, Value.int IntKind.i64 0] 23) = W := ⟨_, rfl⟩
  have HB : Hid (Below w.heap.size w W) := by
    show Below _ _ _
    rw [← hW]; exact ((Below.refl _ _).alloc (Nat.le_refl _) _).alloc (by simp) _
  have hO : W.heap[w.heap.size]? = some (Obj.cells #[Value.int IntKind.i64 k, Value.int IntKind.i64 m, Value.int IntKind.i64 c, Value.int IntKind.i64 v] 23) := by
    rw [← hW, heap_alloc_old _ _ (by simp)]; exact heap_alloc_new _ _
  have a0 : W.cell? ⟨w.heap.size, 0, none⟩ = some (.int .i64 k) := cell_of_row _ _ _ _ 23 _ hO
  have a1 : W.cell? ⟨w.heap.size, 1, none⟩ = some (.int .i64 m) := cell_of_row _ _ _ _ 23 _ hO
  have a2 : W.cell? ⟨w.heap.size, 2, none⟩ = some (.int .i64 c) := cell_of_row _ _ _ _ 23 _ hO
  have a3 : W.cell? ⟨w.heap.size, 3, none⟩ = some (.int .i64 v) := cell_of_row _ _ _ _ 23 _ hO
  have hN : W.heap[w.heap.size + 1]? = some (Obj.cells #[Value.int IntKind.i64 0, Value.int IntKind.i64 0, Value.int IntKind.i64 0, Value.int IntKind.i64 0] 23) := by
    rw [← hW]; have := heap_alloc_new (w.alloc (Obj.cells #[Value.int IntKind.i64 k, Value.int IntKind.i64 m, Value.int IntKind.i64 c, Value.int IntKind.i64 v] 23)) (Obj.cells #[Value.int IntKind.i64 0, Value.int IntKind.i64 0, Value.int IntKind.i64 0, Value.int IntKind.i64 0] 23)
    simpa using this
  rw [hW]
  clear hW hO
  refine still_tail_drew 16 (by kernel_rfl) (by kernel_rfl) ?_
  simp only [List.take_succ_cons, List.take_zero, List.drop_succ_cons, List.drop_zero]
  repeat still_step
  still_call (HP1.out _)
  repeat still_step
  still_call (HP2.out _)
  repeat still_step
  still_call (HP3.out _)
  repeat still_step
  still_call (HP4.out _)
  repeat still_step
  refine wpStill_nil ?_
  have t0 : W.cell? ⟨w.heap.size + 1, 0, none⟩ = some (.int .i64 0) := cell_of_row _ _ _ _ 23 _ hN
  have t1 : W.cell? ⟨w.heap.size + 1, 1, none⟩ = some (.int .i64 0) := cell_of_row _ _ _ _ 23 _ hN
  have t2 : W.cell? ⟨w.heap.size + 1, 2, none⟩ = some (.int .i64 0) := cell_of_row _ _ _ _ 23 _ hN
  have t3 : W.cell? ⟨w.heap.size + 1, 3, none⟩ = some (.int .i64 0) := cell_of_row _ _ _ _ 23 _ hN
  have f0 := frozen_of_row W (w.heap.size + 1) 0 _ 23 hN
  have f1 := frozen_of_row W (w.heap.size + 1) 1 _ 23 hN
  have f2 := frozen_of_row W (w.heap.size + 1) 2 _ 23 hN
  have f3 := frozen_of_row W (w.heap.size + 1) 3 _ 23 hN
  go_wp2
  have hR : ((((W.setCell ⟨w.heap.size + 1, 0, none⟩ (.int .i64 (1 + x1))).setCell ⟨w.heap.size + 1, 1, none⟩ (.int .i64 x2)).setCell ⟨w.heap.size + 1, 2, none⟩ (.int .i64 (1 + x3))).setCell ⟨w.heap.size + 1, 3, none⟩ (.int .i64 (1 + x4))).heap[w.heap.size + 1]? = some (.cells #[.int .i64 (1 + x1), .int .i64 x2, .int .i64 (1 + x3), .int .i64 (1 + x4)] 23 (0, 0)) := by
    exact set_heap _ _ 3 _ _ _ _ (set_heap _ _ 2 _ _ _ _ (set_heap _ _ 1 _ _ _ _ (set_heap _ _ 0 _ _ _ _ hN)))
  refine bodyPost_ret (v := .agg #[.int .i64 (1 + x1), .int .i64 x2, .int .i64 (1 + x3), .int .i64 (1 + x4)]) ?_ rfl ?_
  · exact results_cell_row Tryz.results15 _ _ (w.heap.size + 1) 23 _ (0, 0) _ rfl hR Tryz.underlying23 rfl (by kernel_rfl)
  · refine ⟨?_, ?_⟩
    · simp [pV]
    · exact ((((HB.out.setCell (by simp) _).setCell (by simp) _).setCell (by simp) _).setCell (by simp) _).drew
end Go.Proofs.YtadinjaocnlglaaGreatDoor
