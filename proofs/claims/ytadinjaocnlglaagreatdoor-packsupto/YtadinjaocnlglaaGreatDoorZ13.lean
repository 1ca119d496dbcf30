/-
  NewWriter where params are refused, both; the document's Writer begun.
  A text's bytes put behind a row that is owned, inside a region that draws.
  The walk of vaultkeep's params.
-/
import Derived.Test.YtadinjaocnlglaaGreatDoorZ09
import Derived.Test.YtadinjaocnlglaaGreatDoorZ12
import Derived.Lib.AppendStr
import Derived.Deep.RegionLaw
import Derived.StillTailTactics
namespace Go.Proofs.YtadinjaocnlglaaGreatDoor
open Go.RowKit
set_option maxRecDepth 100000
set_option maxHeartbeats 1000000
/-- four params as a value -/
def pI4 (K M C V : Int) : Value := .agg #[.int .i64 K, .int .i64 M, .int .i64 C, .int .i64 V]
/-- the params are none, at i -/
def BadP (K M C V i : Int) : Prop := NoPar K M i ∨ ∃ k m : Nat, K = k ∧ M = m ∧ 1 ≤ k ∧ k + m ≤ 255 ∧ ((i = 2 ∧ C < 1) ∨ (i = 2 ∧ 64 < C) ∨ (i = 3 ∧ 1 ≤ C ∧ C ≤ 64 ∧ V < 1) ∨ (i = 3 ∧ 1 ≤ C ∧ C ≤ 64 ∧ 16 < V))
theorem par4_cases (K M C V : Int) : (∃ i, BadP K M C V i) ∨ ∃ k m c v : Nat, K = k ∧ M = m ∧ C = c ∧ V = v ∧ 1 ≤ k ∧ k + m ≤ 255 ∧ 1 ≤ c ∧ c ≤ 64 ∧ 1 ≤ v ∧ v ≤ 16 := by
  rcases par_cases K M with ⟨i, h⟩ | ⟨k, m, h1, h2, h3, h4⟩
  · exact .inl ⟨i, .inl h⟩
  · by_cases c1 : C < 1
    · exact .inl ⟨2, .inr ⟨k, m, h1, h2, h3, h4, .inl ⟨rfl, c1⟩⟩⟩
    by_cases c2 : 64 < C
    · exact .inl ⟨2, .inr ⟨k, m, h1, h2, h3, h4, .inr (.inl ⟨rfl, c2⟩)⟩⟩
    by_cases v1 : V < 1
    · exact .inl ⟨3, .inr ⟨k, m, h1, h2, h3, h4, .inr (.inr (.inl ⟨rfl, by omega, by omega, v1⟩))⟩⟩
    by_cases v2 : 16 < V
    · exact .inl ⟨3, .inr ⟨k, m, h1, h2, h3, h4, .inr (.inr (.inr ⟨rfl, by omega, by omega, v2⟩))⟩⟩
    exact .inr ⟨k, m, C.toNat, V.toNat, h1, h2, by omega, by omega, h3, h4, by omega, by omega, by omega, by omega⟩
theorem at_err (k i : Int) (w : World) : Calls Tryz.prog 151 #[.int .i64 k, .int .i64 i] w fun e w' => ∃ g, e = .returned (.iface 305 (.pointer (some ⟨g, 0, none⟩))) ∧ w'.heap[g]? = some (.cells #[.int .i64 k, .int .i64 i, .nilIface] 307 (0, 0)) ∧ Below w.heap.size w w' := by
  refine (At_any k i w).mono ?_
  rintro e w' ⟨rfl, rfl⟩
  exact ⟨_, rfl, heap_alloc_new _ _, (Below.refl _ _).alloc (Nat.le_refl _) _⟩
theorem over_err (k i : Int) (a : Addr) (w : World) : Calls Tryz.prog 178 #[.int .i64 k, .int .i64 i, .iface 305 (.pointer (some a))] w fun e w' => ∃ g, e = .returned (.iface 305 (.pointer (some ⟨g, 0, none⟩))) ∧ w'.heap[g]? = some (.cells #[.int .i64 k, .int .i64 i, .iface 305 (.pointer (some a))] 307 (0, 0)) ∧ Below w.heap.size w w' := by
  go_enter Tryz.func178, Tryz.ntmps178
  go_wp2
  go_ret
  exact ⟨_, rfl, heap_alloc_new _ _, (Below.refl _ _).alloc (Nat.le_refl _) _⟩
theorem cp_err (K M i : Int) (w : World) (h : NoPar K M i) : Calls Tryz.prog 190 #[.int .i64 K, .int .i64 M] w fun e w' => ∃ g, e = .returned (.iface 305 (.pointer (some ⟨g, 0, none⟩))) ∧ w'.heap[g]? = some (.cells #[.int .i64 1, .int .i64 i, .nilIface] 307 (0, 0)) ∧ Below w.heap.size w w' := by
  refine (cp_bad K M i w h).mono ?_
  rintro e w' ⟨rfl, rfl⟩
  exact ⟨_, rfl, heap_alloc_new _ _, (Below.refl _ _).alloc (Nat.le_refl _) _⟩
theorem own_le {w : World} {base b' : Nat} {e : TypeId} {size : Nat} {v : Value} {n : Nat} {xs : List Value} (h : w.ownsRow base e size v n xs) (hb : b' ≤ base) : w.ownsRow b' e size v n xs := by
  refine ⟨h.1, ?_⟩
  rcases h.2 with h2 | ⟨g, cap, cur, hv, hg, rest⟩
  · exact .inl h2
  · exact .inr ⟨g, cap, cur, hv, Nat.le_trans hb hg, rest⟩
theorem lcheck_bad (K M C V i : Int) (w : World) (h : BadP K M C V i) :
    Calls Tryz.prog 140 #[pI4 K M C V] w fun e w' => ∃ v, e = .returned v ∧ ErrAt w' v [(1, i)] ∧ Below w.heap.size w w' := by
  have HB : Hid (Below w.heap.size w (w.alloc (.cells #[.int .i64 K, .int .i64 M, .int .i64 C, .int .i64 V] 23))) := (Below.refl _ _).alloc (Nat.le_refl _) _
  unfold pI4
  rcases h with h | ⟨k, m, rfl, rfl, hk, hkm, h⟩
  · have H : Hid _ := fun W => cp_err K M i W h
    clear h
    go_enter Tryz.func140, Tryz.ntmps140
    go_wp2_with fail
    refine Calls.mono (H.out _) ?_
    rintro e w1 ⟨g, rfl, h1, hb⟩
    have HE : Hid (ErrAt w1 (.iface 305 (.pointer (some ⟨g, 0, none⟩))) [(1, i)]) := ⟨g, _, rfl, h1, rfl⟩
    have HB1 : Hid (Below w.heap.size w w1) := HB.out.trans (hb.mono HB.out.size)
    clear h1 hb
    go_wp2
    go_ret
    exact ⟨_, rfl, HE.out, HB1.out⟩
  · have H : Hid _ := fun W => checkParams_ok k m W hk hkm
    rcases h with ⟨rfl, h⟩ | ⟨rfl, h⟩ | ⟨rfl, h1, h2, h⟩ | ⟨rfl, h1, h2, h⟩
    · go_enter Tryz.func140, Tryz.ntmps140
      go_wp2_with fail
      refine Calls.mono (H.out _) ?_
      rintro e w1 ⟨rfl, rfl⟩
      go_wp2_with fail
      refine (at_err _ _ _).mono ?_
      rintro e w1 ⟨g, rfl, h1', hb⟩
      have HE : Hid (ErrAt w1 (.iface 305 (.pointer (some ⟨g, 0, none⟩))) [(1, _)]) := ⟨g, _, rfl, h1', rfl⟩
      have HB1 : Hid (Below w.heap.size w w1) := HB.out.trans (hb.mono HB.out.size)
      clear h1' hb
      go_wp2
      go_ret
      exact ⟨_, rfl, HE.out, HB1.out⟩
    · have h' : ¬ C < 1 := by omega
      go_enter Tryz.func140, Tryz.ntmps140
      go_wp2_with fail
      refine Calls.mono (H.out _) ?_
      rintro e w1 ⟨rfl, rfl⟩
      go_wp2_with fail
      refine (at_err _ _ _).mono ?_
      rintro e w1 ⟨g, rfl, h1', hb⟩
      have HE : Hid (ErrAt w1 (.iface 305 (.pointer (some ⟨g, 0, none⟩))) [(1, _)]) := ⟨g, _, rfl, h1', rfl⟩
      have HB1 : Hid (Below w.heap.size w w1) := HB.out.trans (hb.mono HB.out.size)
      clear h1' hb
      go_wp2
      go_ret
      exact ⟨_, rfl, HE.out, HB1.out⟩
    · go_enter Tryz.func140, Tryz.ntmps140
      go_wp2_with fail
      refine Calls.mono (H.out _) ?_
      rintro e w1 ⟨rfl, rfl⟩
      go_wp2_with fail
      refine (at_err _ _ _).mono ?_
      rintro e w1 ⟨g, rfl, h1', hb⟩
      have HE : Hid (ErrAt w1 (.iface 305 (.pointer (some ⟨g, 0, none⟩))) [(1, _)]) := ⟨g, _, rfl, h1', rfl⟩
      have HB1 : Hid (Below w.heap.size w w1) := HB.out.trans (hb.mono HB.out.size)
      clear h1' hb
      go_wp2
      go_ret
      exact ⟨_, rfl, HE.out, HB1.out⟩
    · have h' : ¬ V < 1 := by omega
      go_enter Tryz.func140, Tryz.ntmps140
      go_wp2_with fail
      refine Calls.mono (H.out _) ?_
      rintro e w1 ⟨rfl, rfl⟩
      go_wp2_with fail
      refine (at_err _ _ _).mono ?_
      rintro e w1 ⟨g, rfl, h1', hb⟩
      have HE : Hid (ErrAt w1 (.iface 305 (.pointer (some ⟨g, 0, none⟩))) [(1, _)]) := ⟨g, _, rfl, h1', rfl⟩
      have HB1 : Hid (Below w.heap.size w w1) := HB.out.trans (hb.mono HB.out.size)
      clear h1' hb
      go_wp2
      go_ret
      exact ⟨_, rfl, HE.out, HB1.out⟩
theorem new_bad (K M C V i : Int) (w : World) (h : BadP K M C V i) :
    Calls Tryz.prog 89 #[pI4 K M C V] w fun e w' => ∃ v, e = .returned (.tuple #[.pointer none, v]) ∧ ErrAt w' v [(1, i)] ∧ Below w.heap.size w w' := by
  have H : Hid (∀ W, _) := fun W => lcheck_bad K M C V i W h
  have HB : Hid (Below w.heap.size w (w.alloc (.cells #[.int .i64 K, .int .i64 M, .int .i64 C, .int .i64 V] 23))) := (Below.refl _ _).alloc (Nat.le_refl _) _
  unfold pI4 at H ⊢
  clear h
  go_enter Tryz.func89, Tryz.ntmps89
  go_wp2_with fail
  refine Calls.mono (H.out _) ?_
  rintro e w1 ⟨v, rfl, hE, hb⟩
  have HE : Hid _ := hE
  obtain ⟨g, u, rfl, _⟩ := hE
  have HB1 : Hid (Below w.heap.size w w1) := HB.out.trans (hb.mono HB.out.size)
  clear hb
  go_wp2
  go_ret2
  exact ⟨_, rfl, HE.out, HB1.out⟩
theorem nwriter_bad (K M C V i : Int) (w : World) (h : BadP K M C V i) :
    Calls Tryz.prog 48 #[pI4 K M C V] w fun e w' => ∃ v, e = .returned (.tuple #[.pointer none, v]) ∧ ErrAt w' v [(1, i)] ∧ Below w.heap.size w w' := by
  have H : Hid (∀ W, _) := fun W => new_bad K M C V i W h
  have HB : Hid (Below w.heap.size w (w.alloc (.cells #[.int .i64 K, .int .i64 M, .int .i64 C, .int .i64 V] 23))) := (Below.refl _ _).alloc (Nat.le_refl _) _
  unfold pI4 at H ⊢
  clear h
  go_enter Tryz.func48, Tryz.ntmps48
  go_wp2_with fail
  refine Calls.mono (H.out _) ?_
  rintro e w1 ⟨v, rfl, hE, hb⟩
  have HE : Hid _ := hE
  obtain ⟨g, u, rfl, _⟩ := hE
  have HB1 : Hid (Below w.heap.size w w1) := HB.out.trans (hb.mono HB.out.size)
  clear hb
  go_wp2
  go_ret2
  exact ⟨_, rfl, HE.out, HB1.out⟩
theorem rparams_bad (K M C V i : Int) (w : World) (h : BadP K M C V i) :
    Calls Tryz.prog 90 #[pI4 K M C V] w fun e w' => e = .returned (.int .i64 i) ∧ Below w.heap.size w w' := by
  have HB : Hid (Below w.heap.size w (w.alloc (.cells #[.int .i64 K, .int .i64 M, .int .i64 C, .int .i64 V] 23))) := (Below.refl _ _).alloc (Nat.le_refl _) _
  unfold pI4
  rcases h with h | ⟨k, m, rfl, rfl, hk, hkm, h⟩
  · rcases h with ⟨rfl, h⟩ | ⟨rfl, h⟩ | ⟨rfl, h1, h2, h⟩ | ⟨rfl, h1, h2, h3, h⟩
    · go_enter Tryz.func90, Tryz.ntmps90
      go_wp2
      go_ret
      exact ⟨rfl, HB.out⟩
    · have h' : ¬ K < 1 := by omega
      go_enter Tryz.func90, Tryz.ntmps90
      go_wp2
      go_ret
      exact ⟨rfl, HB.out⟩
    · go_enter Tryz.func90, Tryz.ntmps90
      go_wp2
      go_ret
      exact ⟨rfl, HB.out⟩
    · have h' : ¬ M < 0 := by omega
      go_enter Tryz.func90, Tryz.ntmps90
      go_wp2
      go_ret
      exact ⟨rfl, HB.out⟩
  · have a1 : (1 : Int) ≤ (k : Int) := by omega
    have a2 : (k : Int) ≤ 255 := by omega
    have a3 : (m : Int) ≤ 255 - (k : Int) := by omega
    rcases h with ⟨rfl, h⟩ | ⟨rfl, h⟩ | ⟨rfl, h1, h2, h⟩ | ⟨rfl, h1, h2, h⟩
    · go_enter Tryz.func90, Tryz.ntmps90
      go_wp2
      go_ret
      exact ⟨rfl, HB.out⟩
    · have h' : ¬ C < 1 := by omega
      go_enter Tryz.func90, Tryz.ntmps90
      go_wp2
      go_ret
      exact ⟨rfl, HB.out⟩
    · go_enter Tryz.func90, Tryz.ntmps90
      go_wp2
      go_ret
      exact ⟨rfl, HB.out⟩
    · have h' : ¬ V < 1 := by omega
      go_enter Tryz.func90, Tryz.ntmps90
      go_wp2
      go_ret
      exact ⟨rfl, HB.out⟩
theorem rparams_ok (k m c v : Nat) (w : World) (hk : 1 ≤ k) (hkm : k + m ≤ 255) (hc : 1 ≤ c) (hc2 : c ≤ 64) (hv : 1 ≤ v) (hv2 : v ≤ 16) :
    Calls Tryz.prog 90 #[pI4 k m c v] w fun e w' => e = .returned (.int .i64 (-1)) ∧ Below w.heap.size w w' := by
  have HB : Hid (Below w.heap.size w (w.alloc (.cells #[.int .i64 k, .int .i64 m, .int .i64 c, .int .i64 v] 23))) := (Below.refl _ _).alloc (Nat.le_refl _) _
  have a1 : (1 : Int) ≤ (k : Int) := by omega
  have a2 : (k : Int) ≤ 255 := by omega
  have a3 : (m : Int) ≤ 255 - (k : Int) := by omega
  have a4 : (1 : Int) ≤ (c : Int) := by omega
  have a5 : (c : Int) ≤ 64 := by omega
  have a6 : (1 : Int) ≤ (v : Int) := by omega
  have a7 : (v : Int) ≤ 16 := by omega
  unfold pI4
  go_enter Tryz.func90, Tryz.ntmps90
  go_wp2
  go_ret
  exact ⟨rfl, HB.out⟩
theorem rnew_bad (K M C V i : Int) (w : World) (h : BadP K M C V i) (hi : 0 ≤ i) :
    Calls Tryz.prog 49 #[pI4 K M C V] w fun e w' => ∃ v, e = .returned (.tuple #[.pointer none, v]) ∧ w'.ownsRow w.heap.size 250 2 v 1 (mkL [(1, i)]) ∧ Below w.heap.size w w' := by
  have H : Hid (∀ W, _) := fun W => rparams_bad K M C V i W h
  have HB : Hid (Below w.heap.size w (w.alloc (.cells #[.int .i64 K, .int .i64 M, .int .i64 C, .int .i64 V] 23))) := (Below.refl _ _).alloc (Nat.le_refl _) _
  unfold pI4 at H ⊢
  clear h
  go_enter Tryz.func49, Tryz.ntmps49
  go_wp2_with fail
  refine Calls.mono (H.out _) ?_
  rintro e w1 ⟨rfl, hb⟩
  have HB1 : Hid (Below w.heap.size w w1) := HB.out.trans (hb.mono HB.out.size)
  clear hb
  go_wp2_with fail
  refine (at_own 1 i _).mono ?_
  rintro e w2 ⟨v, rfl, ho, hb⟩
  have HO : Hid _ := ho
  have HB2 : Hid (Below w.heap.size w w2) := HB1.out.trans (hb.mono HB1.out.size)
  have HS : Hid _ := HB1.out.size
  clear ho hb
  go_wp2
  go_ret2
  exact ⟨_, rfl, own_le HO.out HS.out, HB2.out⟩
/-- the cells of the document's Writer -/
def yC (K M C V : Int) (vn vd vb : Value) (cl : Bool) : Array Value := #[.int .i64 K, .int .i64 M, .int .i64 C, .int .i64 V, vn, vd, vb, .bool cl]
theorem rnew_ok (k m c v : Nat) (w : World) (hk : 1 ≤ k) (hkm : k + m ≤ 255) (hc : 1 ≤ c) (hc2 : c ≤ 64) (hv : 1 ≤ v) (hv2 : v ≤ 16) :
    Calls Tryz.prog 49 #[pI4 k m c v] w fun e w' => ∃ y, e = .returned (.tuple #[.pointer (some ⟨y, 0, none⟩), .slice none 0 0]) ∧ w.heap.size ≤ y ∧ w'.heap[y]? = some (.cells (yC k m c v (.slice none 0 0) (.slice none 0 0) (.slice none 0 0) false) 185 (0, 0)) ∧ Below w.heap.size w w' := by
  have H : Hid (∀ W, _) := fun W => rparams_ok k m c v W hk hkm hc hc2 hv hv2
  have HB : Hid (Below w.heap.size w (w.alloc (.cells #[.int .i64 k, .int .i64 m, .int .i64 c, .int .i64 v] 23))) := (Below.refl _ _).alloc (Nat.le_refl _) _
  have HO : Hid ((w.alloc (.cells #[.int .i64 k, .int .i64 m, .int .i64 c, .int .i64 v] 23)).heap[w.heap.size]? = some (.cells #[.int .i64 k, .int .i64 m, .int .i64 c, .int .i64 v] 23 (0, 0))) := heap_alloc_new _ _
  unfold pI4 at H ⊢
  go_enter Tryz.func49, Tryz.ntmps49
  go_wp2_with fail
  refine Calls.mono (H.out _) ?_
  rintro e w1 ⟨rfl, hb⟩
  have HB1 : Hid (Below w.heap.size w w1) := HB.out.trans (hb.mono HB.out.size)
  have hr : w1.heap[w.heap.size]? = some (.cells #[.int .i64 k, .int .i64 m, .int .i64 c, .int .i64 v] 23 (0, 0)) := by rw [hb.block _ (by simp)]; exact HO.out
  have c0 : w1.cell? ⟨w.heap.size, 0, none⟩ = some (.int .i64 k) := cell_of_row _ _ _ _ 23 _ hr
  have c1 : w1.cell? ⟨w.heap.size, 1, none⟩ = some (.int .i64 m) := cell_of_row _ _ _ _ 23 _ hr
  have c2 : w1.cell? ⟨w.heap.size, 2, none⟩ = some (.int .i64 c) := cell_of_row _ _ _ _ 23 _ hr
  have c3 : w1.cell? ⟨w.heap.size, 3, none⟩ = some (.int .i64 v) := cell_of_row _ _ _ _ 23 _ hr
  clear hb hr HO
  go_wp2
  go_ret2
  exact ⟨w1.heap.size, rfl, HB1.out.size, heap_alloc_new _ _, HB1.out.alloc HB1.out.size _⟩
end Go.Proofs.YtadinjaocnlglaaGreatDoor
namespace Go.Proofs.YtadinjaocnlglaaGreatDoor
open Go.RowKit
set_option maxRecDepth 100000
set_option maxHeartbeats 1000000
theorem step_text_own {P : Program} {ops : Array Oper} {o : Oper} {a : Act} {w : World} {K : Act → World → Prop} {Q : Exit → Act → World → Prop} {E : Prop}
    (plain : o.guard = none) (dst src : Operand) (ts tt e : TypeId) (shape : o.op = Op.call { callee := Callee.builtin Builtin.append, args := #[dst, src], argTypes := #[ts, tt] })
    (bytesOf : P.underlying ts = some (.slice e)) (textOf : P.underlying tt = some .string) (info : TypeInfo) (known : P.info? e = some info) (zero : info.zero = some (.int .u8 0)) (one : info.size = 1) (one' : info.bytes = 1)
    (base n : Nat) (v : Value) (xs : List Value) (s : ByteArray) (at0 : a.eval dst = v) (at1 : a.eval src = .string s) (own : w.ownsRow base e 1 v n xs) (small : n + s.size ≤ 1000000) (old : base ≤ w.heap.size)
    (next : ∀ v' w', w'.ownsRow base e 1 v' (n + s.size) (xs ++ Lib.strCells s) → w.grownBy w' v.ownBlock → K (a.put o.dst v') w') :
    if Region.wanted o (yielded ops a.tmps) = true then Oper.wp P o a w K Q else E := by
  obtain ⟨v', w', run, r1, r2, _⟩ := Lib.run_append_own_string (P := P) w base ts tt o.type e info bytesOf textOf known zero one one' v n xs own s (by simp only [maxLen]; omega) (by omega) old
  rw [if_pos (show Region.wanted o (yielded ops a.tmps) = true by simp [Region.wanted, plain])]
  unfold Oper.wp
  simp [execOp, shape, resolve, invoke, builtin, at0, at1, run, Result.andThen]
  exact next v' w' r1 r2
end Go.Proofs.YtadinjaocnlglaaGreatDoor
namespace Go.Proofs.YtadinjaocnlglaaGreatDoor
open Go.RowKit
set_option maxRecDepth 100000
set_option maxHeartbeats 1000000
theorem pick_at (c : Int) (n : Nat) (N : Int) (w : World) (hN : N = (n : Int)) (hn : 0 < n) (hn2 : n ≤ 1000) (h0 : -9223372036854775808 ≤ c) (h1 : c ≤ 9223372036854775807) :
    Calls Tryz.prog 54 #[.int .i64 c, .int .i64 N] w fun e w' => e = .returned (.int .i64 (pk c n)) ∧ w' = w := by
  subst hN; exact pick_any c n w hn hn2 h0 h1
theorem set_heap (w : World) (g k : Nat) (v : Value) (cs : Array Value) (t : TypeId) (fr : Nat × Nat) (h : w.heap[g]? = some (.cells cs t fr)) : (w.setCell ⟨g, k, none⟩ v).heap[g]? = some (.cells (cs.setIfInBounds k v) t fr) := by
  simp [World.setCell, Array.getElem?_modify, h]
theorem set_other (w : World) (g k j : Nat) (v : Value) (h : j ≠ g) : (w.setCell ⟨g, k, none⟩ v).heap[j]? = w.heap[j]? := Below.heap_setCell _ _ _ _ (by simpa using h)
theorem still_tail_drew {P : Program} {id : Nat} {Q : Exit → Act → World → Prop} {a : Act} {w : World} {l : List Oper} (n : Nat) (hm : P.follows .mixedOrders = true) (hB : Region.lexTailB .any l.toArray n = true)
    (h : wpStill P l.toArray w.drew (fun a' => wpList P l.toArray Q (l.drop n) a' w.drew) (l.take n) a) : (Code.region id l.toArray true).wp P Q a w :=
  wp_region_still_tail n hm hB h
theorem params_any (k m c v : Int) (w : World) (k0 : -9223372036854775808 ≤ k) (k1 : k ≤ 9223372036854775807) (m0 : -9223372036854775808 ≤ m) (m1 : m ≤ 9223372036854775807) (c0 : -9223372036854775808 ≤ c) (c1 : c ≤ 9223372036854775807) (v0 : -9223372036854775808 ≤ v) (v1 : v ≤ 9223372036854775807) :
    Calls Tryz.prog 15 #[.agg #[.int .i64 k, .int .i64 m, .int .i64 c, .int .i64 v]] w fun e w' => e = .returned (pV (1 + pk k 5) (pk m 4) (1 + pk c 8) (1 + pk v 5)) ∧ Below w.heap.size w w' := by
  have P1 := pick_at k 5 5 (hN := rfl) (hn := by omega) (hn2 := by omega) (h0 := k0) (h1 := k1)
  have P2 := pick_at m 4 4 (hN := rfl) (hn := by omega) (hn2 := by omega) (h0 := m0) (h1 := m1)
  have P3 := pick_at c 8 8 (hN := rfl) (hn := by omega) (hn2 := by omega) (h0 := c0) (h1 := c1)
  have P4 := pick_at v 5 5 (hN := rfl) (hn := by omega) (hn2 := by omega) (h0 := v0) (h1 := v1)
  have HP1 : Hid _ := P1
  have HP2 : Hid _ := P2
  have HP3 : Hid _ := P3
  have HP4 : Hid _ := P4
  clear P1 P2 P3 P4
  have pk1 := pk_lt k 5 (by omega)
  have pk2 := pk_lt m 4 (by omega)
  have pk3 := pk_lt c 8 (by omega)
  have pk4 := pk_lt v 5 (by omega)
  obtain ⟨x1, e1⟩ : ∃ x : Nat, pk k 5 = x := ⟨_, rfl⟩
  obtain ⟨x2, e2⟩ : ∃ x : Nat, pk m 4 = x := ⟨_, rfl⟩
  obtain ⟨x3, e3⟩ : ∃ x : Nat, pk c 8 = x := ⟨_, rfl⟩
  obtain ⟨x4, e4⟩ : ∃ x : Nat, pk v 5 = x := ⟨_, rfl⟩
  rw [e1] at pk1 HP1 ⊢
  rw [e2] at pk2 HP2 ⊢
  rw [e3] at pk3 HP3 ⊢
  rw [e4] at pk4 HP4 ⊢
  clear e1 e2 e3 e4 k0 k1 m0 m1 c0 c1 v0 v1
  go_enter Tryz.func15, Tryz.ntmps15
  go_wp2_with fail
  obtain ⟨W, hW⟩ : ∃ W, (w.alloc (Obj.cells #[Value.int IntKind.i64 k, Value.int IntKind.i64 m, Value.int IntKind.i64 c, Value.int IntKind.i64 v] 23)).alloc (Obj.cells #[Value.int IntKind.i64 0, Value.int IntKind.i64 0, Value.int IntKind.i64 0, Value.int IntKind.i64 0] 23) = W := ⟨_, rfl⟩
  have HB : Hid (Below w.heap.size w W) := by
    show Below _ _ _
    rw [← hW]; exact ((Below.refl _ _).alloc (Nat.le_refl _) _).alloc (by simp) _
  have hO : W.heap[w.heap.size]? = some (Obj.cells #[Value.int IntKind.i64 k, Value.int IntKind.i64 m, Value.int IntKind.i64 c, Value.int IntKind.i64 v] 23) := by
    rw [← hW, heap_alloc_old _ _ (by simp)]; exact heap_alloc_new _ _
  have a0 : W.cell? ⟨w.heap.size, 0, none⟩ = some (.int .i64 k) := cell_of_row _ _ _ _ 23 _ hO
  have a1 : W.cell? ⟨w.heap.size, 1, none⟩ = some (.int .i64 m) := cell_of_row _ _ _ _ 23 _ hO
  have a2 : W.cell? ⟨w.heap.size, 2, none⟩ = some (.int .i64 c) := cell_of_row _ _ _ _ 23 _ hO
  have a3 : W.cell? ⟨w.heap.size, 3, none⟩ = some (.int .i64 v) := cell_of_row _ _ _ _ 23 _ hO
  have hN : W.heap[w.heap.size + 1]? = some (Obj.cells #[Value.int IntKind.i64 0, Value.int IntKind.i64 0, Value.int IntKind.i64 0, Value.int IntKind.i64 0] 23) := by
    rw [← hW]; have := heap_alloc_new (w.alloc (Obj.cells #[Value.int IntKind.i64 k, Value.int IntKind.i64 m, Value.int IntKind.i64 c, Value.int IntKind.i64 v] 23)) (Obj.cells #[Value.int IntKind.i64 0, Value.int IntKind.i64 0, Value.int IntKind.i64 0, Value.int IntKind.i64 0] 23)
    simpa using this
  rw [hW]
  clear hW hO
  refine still_tail_drew 16 (by kernel_rfl) (by kernel_rfl) ?_
  simp only [List.take_succ_cons, List.take_zero, List.drop_succ_cons, List.drop_zero]
  repeat still_step
  still_call (HP1.out _)
  repeat still_step
  still_call (HP2.out _)
  repeat still_step
  still_call (HP3.out _)
  repeat still_step
  still_call (HP4.out _)
  repeat still_step
  refine wpStill_nil ?_
  have t0 : W.cell? ⟨w.heap.size + 1, 0, none⟩ = some (.int .i64 0) := cell_of_row _ _ _ _ 23 _ hN
  have t1 : W.cell? ⟨w.heap.size + 1, 1, none⟩ = some (.int .i64 0) := cell_of_row _ _ _ _ 23 _ hN
  have t2 : W.cell? ⟨w.heap.size + 1, 2, none⟩ = some (.int .i64 0) := cell_of_row _ _ _ _ 23 _ hN
  have t3 : W.cell? ⟨w.heap.size + 1, 3, none⟩ = some (.int .i64 0) := cell_of_row _ _ _ _ 23 _ hN
  have f0 := frozen_of_row W (w.heap.size + 1) 0 _ 23 hN
  have f1 := frozen_of_row W (w.heap.size + 1) 1 _ 23 hN
  have f2 := frozen_of_row W (w.heap.size + 1) 2 _ 23 hN
  have f3 := frozen_of_row W (w.heap.size + 1) 3 _ 23 hN
  go_wp2
  have hR : ((((W.setCell ⟨w.heap.size + 1, 0, none⟩ (.int .i64 (1 + x1))).setCell ⟨w.heap.size + 1, 1, none⟩ (.int .i64 x2)).setCell ⟨w.heap.size + 1, 2, none⟩ (.int .i64 (1 + x3))).setCell ⟨w.heap.size + 1, 3, none⟩ (.int .i64 (1 + x4))).heap[w.heap.size + 1]? = some (.cells #[.int .i64 (1 + x1), .int .i64 x2, .int .i64 (1 + x3), .int .i64 (1 + x4)] 23 (0, 0)) := by
    exact set_heap _ _ 3 _ _ _ _ (set_heap _ _ 2 _ _ _ _ (set_heap _ _ 1 _ _ _ _ (set_heap _ _ 0 _ _ _ _ hN)))
  refine bodyPost_ret (v := .agg #[.int .i64 (1 + x1), .int .i64 x2, .int .i64 (1 + x3), .int .i64 (1 + x4)]) ?_ rfl ?_
  · exact results_cell_row Tryz.results15 _ _ (w.heap.size + 1) 23 _ (0, 0) _ rfl hR Tryz.underlying23 rfl (by kernel_rfl)
  · refine ⟨?_, ?_⟩
    · simp [pV]
    · exact ((((HB.out.setCell (by simp) _).setCell (by simp) _).setCell (by simp) _).setCell (by simp) _).drew
end Go.Proofs.YtadinjaocnlglaaGreatDoor
