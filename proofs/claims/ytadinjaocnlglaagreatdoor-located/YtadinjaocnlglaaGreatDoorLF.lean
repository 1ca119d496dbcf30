/-
  The card of 'vaultkeep.Located': what was overwritten, cut off or left out is told. The frame after that of our Erased.
-/
import Derived.Test.YtadinjaocnlglaaGreatDoorCards
import Derived.Test.YtadinjaocnlglaaGreatDoorTie
import Derived.Test.YtadinjaocnlglaaGreatDoorLI
import Derived.Test.YtadinjaocnlglaaGreatDoorIg
import Derived.WalkKit
import Derived.ProofKit
import Derived.OpenShut
import Derived.ShutString
import Derived.ChangeOld
import Derived.ChangeSlices
import Derived.Below
import Derived.SliceStrings
import Derived.SizedLaws
import Derived.Deep.DeepHandedRow
import Derived.Deep.SlicePairs
import Derived.Deep.Slices
import Derived.Lib.LaidTab
import Derived.Lib.SmallJoins
import Derived.ChangeMaps5
import Derived.Stop.LaidErr
namespace Go.Proofs.YtadinjaocnlglaaGreatDoor
open Go.ChangeShapes Go.WideShapes Go.ChangeAt Go.RowKit

theorem own : ownKnob Tryz.prog.godebug = none := by kernel_rfl
theorem laidOut : laidOutB Tryz.prog = true := by kernel_rfl
theorem gOwn : Tryz.prog.globalNamed "vault/digest.roundWords" = some 2 := by kernel_rfl
theorem tOwn : (Tryz.prog.globals[2]?).map (·.type) = some 372 := by kernel_rfl
theorem cells166 : Tryz.prog.cellsOf 372 = 64 := by kernel_rfl
theorem cells52 : Tryz.prog.cellsOf 152 = 1 := by kernel_rfl
theorem cells9 : Tryz.prog.cellsOf 9 = 1 := by kernel_rfl
theorem cells3 : Tryz.prog.cellsOf 3 = 1 := by kernel_rfl
theorem cells36 : Tryz.prog.cellsOf 72 = 2 := by kernel_rfl
theorem cells23 : Tryz.prog.cellsOf 23 = 4 := by kernel_rfl
theorem bytes36 : Tryz.prog.bytesOf 72 = 32 := by kernel_rfl
theorem bytes3 : Tryz.prog.bytesOf 3 = 8 := by kernel_rfl
theorem cells92 : Tryz.prog.cellsOf 92 = 3 := by kernel_rfl
theorem bytes92 : Tryz.prog.bytesOf 92 = 24 := by kernel_rfl
theorem cells82 : Tryz.prog.cellsOf 82 = 3 := by kernel_rfl
theorem bytes82 : Tryz.prog.bytesOf 82 = 24 := by kernel_rfl

theorem row3 : (((begin Tryz.prog (fun _ _ => 0) default).world.heap[3]?).bind Obj.row?).isSome = true := by kernel_rfl
theorem four_le {W : World} (hS : W.ShapedOpen Tryz.prog) : 4 ≤ W.heap.size := by
  obtain ⟨⟨z, t⟩, hz⟩ := Option.isSome_iff_exists.1 row3
  obtain ⟨cs, h, _⟩ := hS.1 3 z t (of_decide_eq_true (by kernel_rfl)) hz
  exact (Array.getElem?_eq_some_iff.1 h).1
theorem gErr : Tryz.prog.globalNamed "errors.errorType" = some 0 := by kernel_rfl
theorem rtRow : (Tryz.prog.cutTypes.find? (·.1 == "internal/reflectlite.rtype")).map (·.2) = some 376 := by kernel_rfl
theorem typesSize : Tryz.prog.types.size = 487 := by kernel_rfl
theorem oneRow : ((List.range 487).filter fun t => Tryz.prog.rowNamed t [101, 114, 114, 111, 114]) = [63] := by kernel_rfl
/-- what the row's list gives: the table's cells, and the handle -/
theorem tables {W : World} (h : laidMetH Tryz.prog Rows.locatedRow.laid W) : Tab W 2 kt ∧ W.cell? ⟨0, 0, none⟩ = some (.iface 376 (rt 63)) := by
  have h' : laidMet Tryz.prog [("unicode/utf8.acceptRanges", Rows.laid_unicode_utf8_acceptRanges), ("vault/digest.roundWords", Lib.tabData .u32 KT), ("unicode/utf8.first", Rows.laid_unicode_utf8_first)] W ∧ handlesMet Tryz.prog [("errors.errorType", Rows.laid_errors_errorType)] W := h
  have a1 : Lib.TabIs Tryz.prog W "vault/digest.roundWords" .u32 KT := Lib.tabIs_of_head gOwn tOwn Tryz.underlying372 Tryz.underlying152 cells52 cells166 h'.1.tail
  refine ⟨fun k hk => a1.cell gOwn k hk, ?_⟩
  obtain ⟨name, u, ty, e1, e2, e3, e4, e5⟩ := h'.2 _ (List.mem_singleton.2 rfl)
  have en : name = [101, 114, 114, 111, 114] := (Option.some.inj e1).symm
  subst en
  obtain rfl := Option.some.inj (rtRow.symm.trans e2)
  have hm : ty ∈ (List.range 487).filter fun t => Tryz.prog.rowNamed t [101, 114, 114, 111, 114] := List.mem_filter.2 ⟨List.mem_range.2 (by rw [← typesSize]; exact e3), e4⟩
  rw [oneRow] at hm
  obtain rfl := List.mem_singleton.1 hm
  have hh : typeHandle Tryz.prog 63 = .pointer (some ⟨7, 63, none⟩) := by kernel_rfl
  rw [hh] at e5
  simpa using World.var?_cell gErr e5 0
theorem wf_lo {n : Int} (h : (Lit.int .i64 n).wf = true) : -9223372036854775808 ≤ n ∧ n ≤ 9223372036854775807 := by
  have : IntKind.i64.min ≤ n ∧ n ≤ IntKind.i64.max := by simpa [Lit.wf] using h
  exact this
theorem objs_read {H : Type} {enc : TypeId × Value → H} {W : World} {a : Option Addr} {len cap : Nat} {d : DataW H} {p : List MemPlace} (h : DataW.Trod enc Tryz.prog W 0 (fun _ => true) true 38 (.slice a len cap) d p) : Raw W a len ∧ (len = 0 ∨ ∃ es sp, d = .slice es sp ∧ es.length = len) := by
  obtain ⟨fuel, hf⟩ := h
  rcases Go.Deep.open_slice_pairs Tryz.underlying38 Tryz.underlying72 cells36 rfl rfl cells9 cells9 hf with ⟨hcs, _⟩ | ⟨x, l, c, m, n, V0, V1, D0, D1, P0, P1, hcs, _, hl, hm, hmm, hx, hcell⟩
  · simp [Value.cells] at hcs
    obtain ⟨rfl, rfl, rfl⟩ := hcs
    exact ⟨fun i hi => by omega, .inl rfl⟩
  · simp [Value.cells] at hcs
    obtain ⟨rfl, rfl, rfl⟩ := hcs
    have hlm : len ≤ m := by rw [hmm]; simp; omega
    obtain ⟨hd, _⟩ := Prod.mk.inj hx
    refine ⟨fun i hi => ?_, .inr ⟨_, _, hd, by simp⟩⟩
    obtain ⟨h1, h2, h3, h4⟩ := hcell i (by omega)
    obtain ⟨s0, e0, _⟩ := DataW.trod_string Tryz.underlying9 h3
    obtain ⟨s1, e1, _⟩ := DataW.trod_string Tryz.underlying9 h4
    simp at e0 e1
    rw [e0] at h1
    rw [e1] at h2
    obtain ⟨b, off, spot⟩ := x
    have hspot : spot = none := by simpa [Addr.add] using World.cell?_spot (hcell 0 (by omega)).1
    subst hspot
    rw [Go.WideShapes.add_plain] at h1 h2
    exact ⟨b, off, s0, s1, rfl, block_lt_of_cell h1, h1, by rw [Nat.add_assoc]; exact h2⟩

theorem add_none (b o j : Nat) : (⟨b, o, none⟩ : Addr).add j = ⟨b, o + j, none⟩ := by cases j <;> rfl
set_option maxRecDepth 100000 in
theorem one_loss {H : Type} {enc : TypeId × Value → H} {W : World} {fuel : Nat} {cs : List Value} {x : DataW H × List MemPlace} (h : DataW.trod enc Tryz.prog W 0 (fun _ => true) true fuel 82 cs = some x) :
    ∃ z0 z1 z2, cs = [.int .i64 z0, .int .i64 z1, .int .i64 z2] ∧ (-9223372036854775808 ≤ z0 ∧ z0 ≤ 9223372036854775807) ∧ (-9223372036854775808 ≤ z1 ∧ z1 ≤ 9223372036854775807) ∧ (-9223372036854775808 ≤ z2 ∧ z2 ≤ 9223372036854775807) := by
  obtain ⟨y0, y1, y2, n, rfl, hl, h0, h1, h2⟩ := Deep.trod_struct3 Tryz.underlying82 h
  rw [cells82] at hl
  match cs, hl with
  | [c0, c1, c2], _ =>
    simp only [cells3, List.drop, List.take] at h0 h1 h2
    obtain ⟨K, e0, rfl, w0⟩ := DataW.trod_int Tryz.underlying3 h0
    obtain ⟨M, e1, rfl, w1⟩ := DataW.trod_int Tryz.underlying3 h1
    obtain ⟨N, e2, rfl, w2⟩ := DataW.trod_int Tryz.underlying3 h2
    simp only [List.cons.injEq, and_true] at e0 e1 e2
    subst e0
    subst e1
    subst e2
    exact ⟨K, M, N, rfl, wf_lo w0, wf_lo w1, wf_lo w2⟩
theorem loss_read {H : Type} {enc : TypeId × Value → H} {W : World} {a : Option Addr} {len cap : Nat} {d : DataW H} {p : List MemPlace} (h : DataW.Trod enc Tryz.prog W 0 (fun _ => true) true 74 (.slice a len cap) d p) : Lss W a len ∧ (len = 0 ∨ ∃ es sp, d = .slice es sp ∧ es.length = len) := by
  obtain ⟨fuel, hf⟩ := h
  rcases Deep.open_slice Tryz.underlying74 hf with ⟨hv, _⟩ | ⟨x, l, c, m, n, D, Pl, hv, _, hl, _, hm, hx, hcell⟩
  · simp [Value.cells] at hv
    obtain ⟨rfl, rfl, rfl⟩ := hv
    exact ⟨fun i hi => by omega, .inl rfl⟩
  · simp [Value.cells] at hv
    obtain ⟨rfl, rfl, rfl⟩ := hv
    have hlm : len ≤ m := by rw [hm]; simp; omega
    obtain ⟨hd, _⟩ := Prod.mk.inj hx
    refine ⟨fun i hi => ?_, .inr ⟨_, _, hd, by simp⟩⟩
    rw [cells82] at hcell
    obtain ⟨b, o, spot⟩ := x
    have hspot : spot = none := by
      obtain ⟨cs0, hc0, _⟩ := hcell 0 (by omega)
      obtain ⟨_, hl0, hr0⟩ := World.cells?_some hc0
      have h0 := hr0 0 (by omega)
      rw [List.getElem?_eq_getElem (by omega)] at h0
      simpa [Addr.add] using World.cell?_spot h0
    subst hspot
    obtain ⟨cs, hc, ht⟩ := hcell i (by omega)
    obtain ⟨_, _, hr⟩ := World.cells?_some hc
    obtain ⟨z0, z1, z2, rfl, w0, w1, w2⟩ := one_loss ht
    have r0 := hr 0 (by omega)
    have r1 := hr 1 (by omega)
    have r2 := hr 2 (by omega)
    rw [add_none, add_none] at r0 r1 r2
    exact ⟨b, o, z0, z1, z2, rfl, block_lt_of_cell r0, r0, r1, r2, w0, w1, w2⟩

set_option maxRecDepth 100000 in
theorem one_turn {H : Type} {enc : TypeId × Value → H} {W : World} {fuel : Nat} {cs : List Value} {x : DataW H × List MemPlace} (h : DataW.trod enc Tryz.prog W 0 (fun _ => true) true fuel 92 cs = some x) :
    ∃ z0 z1 z2, cs = [.int .i64 z0, .int .i64 z1, .int .i64 z2] ∧ (-9223372036854775808 ≤ z0 ∧ z0 ≤ 9223372036854775807) ∧ (-9223372036854775808 ≤ z1 ∧ z1 ≤ 9223372036854775807) ∧ (-9223372036854775808 ≤ z2 ∧ z2 ≤ 9223372036854775807) := by
  obtain ⟨y0, y1, y2, n, rfl, hl, h0, h1, h2⟩ := Deep.trod_struct3 Tryz.underlying92 h
  rw [cells92] at hl
  match cs, hl with
  | [c0, c1, c2], _ =>
    simp only [cells3, List.drop, List.take] at h0 h1 h2
    obtain ⟨K, e0, rfl, w0⟩ := DataW.trod_int Tryz.underlying3 h0
    obtain ⟨M, e1, rfl, w1⟩ := DataW.trod_int Tryz.underlying3 h1
    obtain ⟨N, e2, rfl, w2⟩ := DataW.trod_int Tryz.underlying3 h2
    simp only [List.cons.injEq, and_true] at e0 e1 e2
    subst e0
    subst e1
    subst e2
    exact ⟨K, M, N, rfl, wf_lo w0, wf_lo w1, wf_lo w2⟩
theorem turn_read {H : Type} {enc : TypeId × Value → H} {W : World} {a : Option Addr} {len cap : Nat} {d : DataW H} {p : List MemPlace} (h : DataW.Trod enc Tryz.prog W 0 (fun _ => true) true 89 (.slice a len cap) d p) : Lss W a len ∧ (len = 0 ∨ ∃ es sp, d = .slice es sp ∧ es.length = len) := by
  obtain ⟨fuel, hf⟩ := h
  rcases Deep.open_slice Tryz.underlying89 hf with ⟨hv, _⟩ | ⟨x, l, c, m, n, D, Pl, hv, _, hl, _, hm, hx, hcell⟩
  · simp [Value.cells] at hv
    obtain ⟨rfl, rfl, rfl⟩ := hv
    exact ⟨fun i hi => by omega, .inl rfl⟩
  · simp [Value.cells] at hv
    obtain ⟨rfl, rfl, rfl⟩ := hv
    have hlm : len ≤ m := by rw [hm]; simp; omega
    obtain ⟨hd, _⟩ := Prod.mk.inj hx
    refine ⟨fun i hi => ?_, .inr ⟨_, _, hd, by simp⟩⟩
    rw [cells92] at hcell
    obtain ⟨b, o, spot⟩ := x
    have hspot : spot = none := by
      obtain ⟨cs0, hc0, _⟩ := hcell 0 (by omega)
      obtain ⟨_, hl0, hr0⟩ := World.cells?_some hc0
      have h0 := hr0 0 (by omega)
      rw [List.getElem?_eq_getElem (by omega)] at h0
      simpa [Addr.add] using World.cell?_spot h0
    subst hspot
    obtain ⟨cs, hc, ht⟩ := hcell i (by omega)
    obtain ⟨_, _, hr⟩ := World.cells?_some hc
    obtain ⟨z0, z1, z2, rfl, w0, w1, w2⟩ := one_turn ht
    have r0 := hr 0 (by omega)
    have r1 := hr 1 (by omega)
    have r2 := hr 2 (by omega)
    rw [add_none, add_none] at r0 r1 r2
    exact ⟨b, o, z0, z1, z2, rfl, block_lt_of_cell r0, r0, r1, r2, w0, w1, w2⟩

set_option maxRecDepth 100000 in
theorem contract (H : Type) (enc : TypeId × Value → H) (W : World) (base : Nat) (args : Array Value) (ds gs : List (DataW H)) (before : List MemPlace)
    (hval : ∀ (j : Nat) t v, Tryz.f9.params[j]? = some t → args[j]? = some v → Value.okWide Tryz.prog W .any base t v)
    (hW : DataW.Whole enc Tryz.prog Tryz.f9.params.toList Rows.locatedSpec.vars false W args.toList ds gs before)
    (hsz : (DataW.weightsEach Tryz.prog (Tryz.f9.params.toList ++ (OpenSpec.ofChange Rows.locatedSpec).bare.plain.varTypes Tryz.prog) (ds ++ gs)).all (· ≤ reachBytes) = true)
    (hL : laidMetH Tryz.prog Rows.locatedRow.laid W) (hS : W.ShapedOpen Tryz.prog) :
    Calls Tryz.prog 9 args W fun e W' => ∃ v, e = .returned v ∧ Rows.locatedSpec.post enc Tryz.prog Tryz.f9 false true false false W args v W' := by
  have hW' := hW
  obtain ⟨p, q, hA0, hV, rfl, hfz, hnd⟩ := hW
  have hA : DataW.TrodAll enc Tryz.prog W 0 (fun _ => true) true Tryz.f9.params.toList args.toList ds p := hA0
  rw [Tryz.params9] at hA hval hsz
  obtain ⟨v0, vs0, d0, ds0, p0, q0, hargs, rfl, rfl, h0, r0⟩ := trodAll_cons hA
  obtain ⟨v1, vs1, d1, ds1, p1, q1, rfl, rfl, rfl, h1, r1⟩ := trodAll_cons r0
  obtain ⟨v2, vs2, d2, ds2, p2, q2, rfl, rfl, rfl, h2, r2⟩ := trodAll_cons r1
  obtain ⟨v3, vs3, d3, ds3, p3, q3, rfl, rfl, rfl, h3, r3⟩ := trodAll_cons r2
  obtain ⟨rfl, rfl, rfl⟩ := trodAll_nil r3
  obtain rfl : args = #[v0, v1, v2, v3] := by cases args; simp_all
  obtain ⟨rfl, rfl⟩ := trodVars_none hV
  obtain ⟨a1, len1, cap1, rfl⟩ := okWide_slice Tryz.underlying38 (hval 1 38 v1 rfl rfl)
  obtain ⟨a2, len2, cap2, rfl⟩ := okWide_slice Tryz.underlying89 (hval 2 89 v2 rfl rfl)
  obtain ⟨a3, len3, cap3, rfl⟩ := okWide_slice Tryz.underlying74 (hval 3 74 v3 rfl rfl)
  have lt0 : ∀ x ∈ p0, x.block < W.heap.size := by obtain ⟨m, hm⟩ := h0; exact DataW.trod_lt m _ _ _ hm
  have lt1 : ∀ x ∈ p1, x.block < W.heap.size := by obtain ⟨m, hm⟩ := h1; exact DataW.trod_lt m _ _ _ hm
  have lt2 : ∀ x ∈ p2, x.block < W.heap.size := by obtain ⟨m, hm⟩ := h2; exact DataW.trod_lt m _ _ _ hm
  have lt3 : ∀ x ∈ p3, x.block < W.heap.size := by obtain ⟨m, hm⟩ := h3; exact DataW.trod_lt m _ _ _ hm
  obtain ⟨hT, hErr⟩ := tables hL
  have h1le : 4 ≤ W.heap.size := four_le hS
  obtain ⟨hraw, hlen1⟩ := objs_read h1
  have hnx : len1 ≤ 140737488355328 := by
    rcases hlen1 with rfl | ⟨es, sp, rfl, he⟩
    · omega
    · have hts := sized_slice hsz (j := 1) (t := 38) (e := 72) rfl rfl Tryz.underlying38
      rw [bytes36, show reachBytes = 140737488351232 from rfl] at hts
      omega
  obtain ⟨hturn, hlen2⟩ := turn_read h2
  have hna : len2 ≤ 140737488355328 := by
    rcases hlen2 with rfl | ⟨es, sp, rfl, he⟩
    · omega
    · have hts := sized_slice hsz (j := 2) (t := 89) (e := 92) rfl rfl Tryz.underlying89
      rw [bytes92, show reachBytes = 140737488351232 from rfl] at hts
      omega
  obtain ⟨hloss, hlen3⟩ := loss_read h3
  have hnl : len3 ≤ 140737488355328 := by
    rcases hlen3 with rfl | ⟨es, sp, rfl, he⟩
    · omega
    · have hts := sized_slice hsz (j := 3) (t := 74) (e := 82) rfl rfl Tryz.underlying74
      rw [bytes82, show reachBytes = 140737488351232 from rfl] at hts
      omega
  obtain ⟨c0, c1, c2, c3, y0, y1, y2, y3, fu, hv0, _, _, g0, g1, g2, g3⟩ := Go.Joins.open_agg4 Tryz.underlying23 (by kernel_rfl) cells23 (hval 0 23 v0 rfl rfl) h0
  subst hv0
  obtain ⟨z0, e0, _, wz0⟩ := DataW.trod_int Tryz.underlying3 g0
  obtain ⟨z1, e1, _, wz1⟩ := DataW.trod_int Tryz.underlying3 g1
  obtain ⟨z2, e2, _, wz2⟩ := DataW.trod_int Tryz.underlying3 g2
  obtain ⟨z3, e3, _, wz3⟩ := DataW.trod_int Tryz.underlying3 g3
  simp at e0 e1 e2 e3
  subst e0 e1 e2 e3
  clear hA0
  have hgo : Calls Tryz.prog 9 #[.agg #[.int .i64 z0, .int .i64 z1, .int .i64 z2, .int .i64 z3], .slice a1 len1 cap1, .slice a2 len2 cap2, .slice a3 len3 cap3] W fun e w' => e = .returned (.bool true) ∧ Below W.heap.size W w' :=
    locatedL kt z0 z1 z2 z3 a1 a2 a3 len1 cap1 len2 cap2 len3 cap3 W (wf_lo wz0).1 (wf_lo wz0).2 (wf_lo wz1).1 (wf_lo wz1).2 (wf_lo wz2).1 (wf_lo wz2).2 (wf_lo wz3).1 (wf_lo wz3).2 hnx hna hnl hraw hturn hloss ⟨hT, h1le⟩ hErr
  refine hgo.mono fun e W' ⟨he, bel⟩ => ?_
  subst he
  exact ⟨_, rfl, _, _, _, [], _, [], hW', trodAll_mk1 (shut_bool Tryz.underlying4 _), (trodAll_cons_mk (Below.trod laidOut (by kernel_rfl) (of_decide_eq_true (by kernel_rfl)) h0 bel lt0) (trodAll_cons_mk (Below.trod laidOut (by kernel_rfl) (of_decide_eq_true (by kernel_rfl)) h1 bel lt1) (trodAll_cons_mk (Below.trod laidOut (by kernel_rfl) (of_decide_eq_true (by kernel_rfl)) h2 bel lt2) (trodAll_cons_mk (Below.trod laidOut (by kernel_rfl) (of_decide_eq_true (by kernel_rfl)) h3 bel lt3) trodAll_mk0)))), rfl, bel.frame _, fun h => by cases h⟩

/-- a world for the witness: the settled one, the tables holding what their initialisers lay -/
def fillBy (cs : Array Value) : Obj → Obj
  | .cells _ t frozen => .cells cs t frozen
  | o => o
def tabCells0 : Array Value := #[.int .u32 1116352408, .int .u32 1899447441, .int .u32 3049323471, .int .u32 3921009573, .int .u32 961987163, .int .u32 1508970993, .int .u32 2453635748, .int .u32 2870763221, .int .u32 3624381080, .int .u32 310598401, .int .u32 607225278, .int .u32 1426881987, .int .u32 1925078388, .int .u32 2162078206, .int .u32 2614888103, .int .u32 3248222580, .int .u32 3835390401, .int .u32 4022224774, .int .u32 264347078, .int .u32 604807628, .int .u32 770255983, .int .u32 1249150122, .int .u32 1555081692, .int .u32 1996064986, .int .u32 2554220882, .int .u32 2821834349, .int .u32 2952996808, .int .u32 3210313671, .int .u32 3336571891, .int .u32 3584528711, .int .u32 113926993, .int .u32 338241895, .int .u32 666307205, .int .u32 773529912, .int .u32 1294757372, .int .u32 1396182291, .int .u32 1695183700, .int .u32 1986661051, .int .u32 2177026350, .int .u32 2456956037, .int .u32 2730485921, .int .u32 2820302411, .int .u32 3259730800, .int .u32 3345764771, .int .u32 3516065817, .int .u32 3600352804, .int .u32 4094571909, .int .u32 275423344, .int .u32 430227734, .int .u32 506948616, .int .u32 659060556, .int .u32 883997877, .int .u32 958139571, .int .u32 1322822218, .int .u32 1537002063, .int .u32 1747873779, .int .u32 1955562222, .int .u32 2024104815, .int .u32 2227730452, .int .u32 2361852424, .int .u32 2428436474, .int .u32 2756734187, .int .u32 3204031479, .int .u32 3329325298]
def tabCells1 : Array Value := (Go.Pinned.utf8FirstZ.map fun n => Value.int .u8 ((n : Nat) : Int)).toArray
def tabCells2 : Array Value := #[.int .u8 128, .int .u8 191, .int .u8 160, .int .u8 191, .int .u8 128, .int .u8 159, .int .u8 144, .int .u8 191, .int .u8 128, .int .u8 143, .int .u8 0, .int .u8 0, .int .u8 0, .int .u8 0, .int .u8 0, .int .u8 0, .int .u8 0, .int .u8 0, .int .u8 0, .int .u8 0, .int .u8 0, .int .u8 0, .int .u8 0, .int .u8 0, .int .u8 0, .int .u8 0, .int .u8 0, .int .u8 0, .int .u8 0, .int .u8 0, .int .u8 0, .int .u8 0]
theorem laid_met (os : Os) : laidMetH Tryz.prog Rows.locatedRow.laid (({ World.holding Tryz.prog os ⟨#[], #[], []⟩ with heap := ((((World.holding Tryz.prog os ⟨#[], #[], []⟩).heap.modify 0 (fillBy #[.iface 376 (.agg #[.pointer (some ⟨7, 63, none⟩)])])).modify 2 (fillBy tabCells0)).modify 5 (fillBy tabCells1)).modify 6 (fillBy tabCells2) } : World).forCall (fun _ _ => 0) ⟨#[], #[.agg #[.int .i64 0, .int .i64 0, .int .i64 0, .int .i64 0], .slice none 0 0, .slice none 0 0, .slice none 0 0], []⟩).memory :=
  laidMetH_of_parts (laidMet_of_run' 8 (by kernel_rfl) (by kernel_rfl)) (by kernel_rfl)
theorem reads (os : Os) {H : Type} (enc : TypeId × Value → H) : ∃ places, DataW.whole enc Tryz.prog (({ World.holding Tryz.prog os ⟨#[], #[], []⟩ with heap := ((((World.holding Tryz.prog os ⟨#[], #[], []⟩).heap.modify 0 (fillBy #[.iface 376 (.agg #[.pointer (some ⟨7, 63, none⟩)])])).modify 2 (fillBy tabCells0)).modify 5 (fillBy tabCells1)).modify 6 (fillBy tabCells2) } : World).forCall (fun _ _ => 0) ⟨#[], #[.agg #[.int .i64 0, .int .i64 0, .int .i64 0, .int .i64 0], .slice none 0 0, .slice none 0 0, .slice none 0 0], []⟩).memory Tryz.f9.params.toList Rows.locatedSpec.vars false #[Value.agg #[.int .i64 0, .int .i64 0, .int .i64 0, .int .i64 0], .slice none 0 0, .slice none 0 0, .slice none 0 0].toList 8 = some ([.agg [.lit (.int .i64 0), .lit (.int .i64 0), .lit (.int .i64 0), .lit (.int .i64 0)], .nil, .nil, .nil], [], places) :=
  ⟨[], by kernel_rfl⟩

set_option maxRecDepth 100000 in
theorem lifted (os : Os) (started : os.Started) (H : Type) (enc : TypeId × Value → H) (F : Stop.Interp) :
    ReturnsInHanded {} Tryz.checked os 9 .any ((OpenSpec.ofChange Rows.locatedSpec).preRow enc Tryz.prog Tryz.f9 Rows.locatedRow.domain false Rows.locatedRow.laid) (((OpenSpec.ofChange Rows.locatedSpec).at F).post enc Tryz.prog Tryz.f9 false true false false) := by
  obtain ⟨places, hx⟩ := reads os enc
  refine returnsInHanded_of_row (C := Tryz.checked) (s := OpenSpec.ofChange Rows.locatedSpec) own started (by kernel_rfl) Tryz.func9
    (witness_row_at (enc := enc) (C := Tryz.checked) false ({ World.holding Tryz.prog os ⟨#[], #[], []⟩ with heap := ((((World.holding Tryz.prog os ⟨#[], #[], []⟩).heap.modify 0 (fillBy #[.iface 376 (.agg #[.pointer (some ⟨7, 63, none⟩)])])).modify 2 (fillBy tabCells0)).modify 5 (fillBy tabCells1)).modify 6 (fillBy tabCells2) } : World) #[.agg #[.int .i64 0, .int .i64 0, .int .i64 0, .int .i64 0], .slice none 0 0, .slice none 0 0, .slice none 0 0] rfl (by kernel_rfl) (by kernel_rfl) (by kernel_rfl)
      (OpenSpec.preRow_of_cond 8 hx (by kernel_rfl) (fun k hk => by cases hk) (by kernel_rfl) (laid_met os))) ?_
  intro W base args ds gs before hval hW _ _ hsz hL hS _
  exact contract H enc W base args ds gs before hval hW hsz hL hS

set_option maxRecDepth 100000 in
theorem said : Rows.LocatedSaid :=
  OpenClaim.holds_of_cond 9 Tryz.f9 rfl rfl rfl rfl rfl rfl rfl ⟨rfl, rfl, rfl, rfl, rfl⟩ rfl rfl rfl rfl rfl (by kernel_rfl) Tryz.func9 locatedClosed
    (of_decide_eq_true (by kernel_rfl)) (by unfold Func.isWrapper; first | (rw [if_pos (by decide +kernel)]; kernel_rfl) | (rw [if_neg (by decide +kernel)]; exact ⟨rfl, rfl⟩))
    (fun os started H enc _ F => by rw [OpenClaim.pre_eq_preRow]; exact lifted os started H enc F)

set_option maxRecDepth 100000 in
/-- No parameter wants a stand-in. -/
theorem plain (f : FuncId) (fn : Func) (hf : Tryz.pinned.checked.prog.funcNamed "vault/vaultkeep.Located" = some f) (hfn : Tryz.pinned.checked.prog.funcs[f]? = some fn) :
    true = Tryz.pinned.checked.prog.looks [] ∧ ∀ (j : Nat) t, fn.params[j]? = some t → Tryz.pinned.checked.prog.wantsStandIn t = false := by
  obtain rfl : f = 9 := Option.some.inj ((show Tryz.prog.funcNamed "vault/vaultkeep.Located" = some 9 by kernel_rfl).symm.trans hf) |>.symm
  obtain rfl : fn = Tryz.f9 := (Option.some.inj (Tryz.func9.symm.trans hfn)).symm
  refine ⟨by kernel_rfl, fun j t ht => ?_⟩
  rw [Tryz.params9] at ht
  have hm := Array.mem_of_getElem? ht
  have hc : t = 23 ∨ t = 38 ∨ t = 89 ∨ t = 74 := by simpa using hm
  rcases hc with rfl | rfl | rfl | rfl
  · exact (show Tryz.prog.wantsStandIn 23 = false by kernel_rfl)
  · exact (show Tryz.prog.wantsStandIn 38 = false by kernel_rfl)
  · exact (show Tryz.prog.wantsStandIn 89 = false by kernel_rfl)
  · exact (show Tryz.prog.wantsStandIn 74 = false by kernel_rfl)

set_option maxRecDepth 100000 in
/-- THE CARD -/
theorem located_card : Rows.LocatedCardSaid :=
  Claim7.holds_tied_plain_at .later [] _ _ _ _ said (fun _ h => by cases h) (by kernel_rfl) (fun _ h => by cases h) located_row_tie rfl ⟨rfl, rfl⟩ (by kernel_rfl) rfl plain (by kernel_rfl)
end Go.Proofs.YtadinjaocnlglaaGreatDoor
