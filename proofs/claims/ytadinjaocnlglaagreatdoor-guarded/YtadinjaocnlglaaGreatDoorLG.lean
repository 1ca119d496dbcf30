/-
  The card of 'vaultkeep.Guarded': who knows the root is given no wrong object. The frame after that of our Located.
-/
import Derived.Test.YtadinjaocnlglaaGreatDoorCards
import Derived.Test.YtadinjaocnlglaaGreatDoorTie
import Derived.Test.YtadinjaocnlglaaGreatDoorZ48
import Derived.Test.YtadinjaocnlglaaGreatDoorJg
import Derived.WalkKit
import Derived.ProofKit
import Derived.OpenShut
import Derived.ShutString
import Derived.ChangeOld
import Derived.ChangeSlices
import Derived.Below
import Derived.SliceStrings
import Derived.SizedLaws
import Derived.Deep.DeepHandedRow
import Derived.Deep.SlicePairs
import Derived.Deep.Slices
import Derived.Lib.LaidTab
import Derived.Lib.SmallJoins
import Derived.ChangeMaps5
import Derived.Stop.LaidErr
namespace Go.Proofs.YtadinjaocnlglaaGreatDoor
open Go.ChangeShapes Go.WideShapes Go.ChangeAt Go.RowKit

def FT : List Int := [1779033703, 3144134277, 1013904242, 2773480762, 1359893119, 2600822924, 528734635, 1541459225]
theorem hini_FT : ∀ j, j < 8 → FT.getD j 0 = hini j := by
  intro j hj
  match j, hj with
  | 0, _ => rfl
  | 1, _ => rfl
  | 2, _ => rfl
  | 3, _ => rfl
  | 4, _ => rfl
  | 5, _ => rfl
  | 6, _ => rfl
  | 7, _ => rfl
theorem own : ownKnob Tryz.prog.godebug = none := by kernel_rfl
theorem laidOut : laidOutB Tryz.prog = true := by kernel_rfl
theorem gOwn : Tryz.prog.globalNamed "vault/digest.roundWords" = some 2 := by kernel_rfl
theorem tOwn : (Tryz.prog.globals[2]?).map (·.type) = some 372 := by kernel_rfl
theorem cells166 : Tryz.prog.cellsOf 372 = 64 := by kernel_rfl
theorem cells52 : Tryz.prog.cellsOf 152 = 1 := by kernel_rfl
theorem cells9 : Tryz.prog.cellsOf 9 = 1 := by kernel_rfl
theorem cells3 : Tryz.prog.cellsOf 3 = 1 := by kernel_rfl
theorem cells36 : Tryz.prog.cellsOf 72 = 2 := by kernel_rfl
theorem cells23 : Tryz.prog.cellsOf 23 = 4 := by kernel_rfl
theorem bytes36 : Tryz.prog.bytesOf 72 = 32 := by kernel_rfl
theorem bytes3 : Tryz.prog.bytesOf 3 = 8 := by kernel_rfl
theorem cells107 : Tryz.prog.cellsOf 107 = 5 := by kernel_rfl
theorem bytes107 : Tryz.prog.bytesOf 107 = 48 := by kernel_rfl
theorem cells4 : Tryz.prog.cellsOf 4 = 1 := by kernel_rfl
theorem gRef : Tryz.prog.globalNamed "vault/vaultref.roundNumbers" = some 3 := by kernel_rfl
theorem gFirst : Tryz.prog.globalNamed "vault/vaultref.firstNumbers" = some 1 := by kernel_rfl
theorem tRef : (Tryz.prog.globals[3]?).map (·.type) = some 372 := by kernel_rfl
theorem tFirst : (Tryz.prog.globals[1]?).map (·.type) = some 294 := by kernel_rfl
theorem cells294 : Tryz.prog.cellsOf 294 = 8 := by kernel_rfl

theorem row3 : (((begin Tryz.prog (fun _ _ => 0) default).world.heap[3]?).bind Obj.row?).isSome = true := by kernel_rfl
theorem four_le {W : World} (hS : W.ShapedOpen Tryz.prog) : 4 ≤ W.heap.size := by
  obtain ⟨⟨z, t⟩, hz⟩ := Option.isSome_iff_exists.1 row3
  obtain ⟨cs, h, _⟩ := hS.1 3 z t (of_decide_eq_true (by kernel_rfl)) hz
  exact (Array.getElem?_eq_some_iff.1 h).1
/-- what the row's list gives: the tables' cells -/
theorem tables {W : World} (h : laidMetH Tryz.prog Rows.guardedRow.laid W) (h4 : 4 ≤ W.heap.size) : Gd kt W ∧ Gr kt W := by
  have h' : laidMet Tryz.prog [("unicode/utf8.acceptRanges", Rows.laid_unicode_utf8_acceptRanges), ("vault/digest.roundWords", Lib.tabData .u32 KT), ("vault/vaultref.roundNumbers", Lib.tabData .u32 KT), ("vault/vaultref.firstNumbers", Lib.tabData .u32 FT), ("unicode/utf8.first", Rows.laid_unicode_utf8_first)] W := h
  have a1 : Lib.TabIs Tryz.prog W "vault/digest.roundWords" .u32 KT := Lib.tabIs_of_head gOwn tOwn Tryz.underlying372 Tryz.underlying152 cells52 cells166 h'.tail
  have a2 : Lib.TabIs Tryz.prog W "vault/vaultref.roundNumbers" .u32 KT := Lib.tabIs_of_head gRef tRef Tryz.underlying372 Tryz.underlying152 cells52 cells166 h'.tail.tail
  have a3 : Lib.TabIs Tryz.prog W "vault/vaultref.firstNumbers" .u32 FT := Lib.tabIs_of_head gFirst tFirst Tryz.underlying294 Tryz.underlying152 cells52 cells294 h'.tail.tail.tail
  exact ⟨⟨fun k hk => a1.cell gOwn k hk, h4⟩, ⟨fun k hk => a2.cell gRef k hk, fun j hj => by rw [← hini_FT j hj]; exact a3.cell gFirst j hj, h4⟩⟩
theorem wf_lo {n : Int} (h : (Lit.int .i64 n).wf = true) : -9223372036854775808 ≤ n ∧ n ≤ 9223372036854775807 := by
  have : IntKind.i64.min ≤ n ∧ n ≤ IntKind.i64.max := by simpa [Lit.wf] using h
  exact this
theorem objs_read {H : Type} {enc : TypeId × Value → H} {W : World} {a : Option Addr} {len cap : Nat} {d : DataW H} {p : List MemPlace} (h : DataW.Trod enc Tryz.prog W 0 (fun _ => true) true 38 (.slice a len cap) d p) : Raw W a len ∧ (len = 0 ∨ ∃ es sp, d = .slice es sp ∧ es.length = len) := by
  obtain ⟨fuel, hf⟩ := h
  rcases Go.Deep.open_slice_pairs Tryz.underlying38 Tryz.underlying72 cells36 rfl rfl cells9 cells9 hf with ⟨hcs, _⟩ | ⟨x, l, c, m, n, V0, V1, D0, D1, P0, P1, hcs, _, hl, hm, hmm, hx, hcell⟩
  · simp [Value.cells] at hcs
    obtain ⟨rfl, rfl, rfl⟩ := hcs
    exact ⟨fun i hi => by omega, .inl rfl⟩
  · simp [Value.cells] at hcs
    obtain ⟨rfl, rfl, rfl⟩ := hcs
    have hlm : len ≤ m := by rw [hmm]; simp; omega
    obtain ⟨hd, _⟩ := Prod.mk.inj hx
    refine ⟨fun i hi => ?_, .inr ⟨_, _, hd, by simp⟩⟩
    obtain ⟨h1, h2, h3, h4⟩ := hcell i (by omega)
    obtain ⟨s0, e0, _⟩ := DataW.trod_string Tryz.underlying9 h3
    obtain ⟨s1, e1, _⟩ := DataW.trod_string Tryz.underlying9 h4
    simp at e0 e1
    rw [e0] at h1
    rw [e1] at h2
    obtain ⟨b, off, spot⟩ := x
    have hspot : spot = none := by simpa [Addr.add] using World.cell?_spot (hcell 0 (by omega)).1
    subst hspot
    rw [Go.WideShapes.add_plain] at h1 h2
    exact ⟨b, off, s0, s1, rfl, block_lt_of_cell h1, h1, by rw [Nat.add_assoc]; exact h2⟩

theorem add_none (b o j : Nat) : (⟨b, o, none⟩ : Addr).add j = ⟨b, o + j, none⟩ := by cases j <;> rfl
theorem ints_read {H : Type} {enc : TypeId × Value → H} {W : World} {a : Option Addr} {len cap : Nat} {d : DataW H} {p : List MemPlace} (h : DataW.Trod enc Tryz.prog W 0 (fun _ => true) true 39 (.slice a len cap) d p) : Ints W a len := by
  obtain ⟨fuel, hf⟩ := h
  rcases open_ints Tryz.underlying39 Tryz.underlying3 cells3 hf with ⟨hcs, _⟩ | ⟨x, l, c, zs, hcs, _, hl, hm, hz, hx, hcell, hws⟩
  · simp [Value.cells] at hcs
    obtain ⟨rfl, rfl, rfl⟩ := hcs
    exact fun i hi => by omega
  · simp [Value.cells] at hcs
    obtain ⟨rfl, rfl, rfl⟩ := hcs
    have hlen : len ≤ zs.length := by rw [hz]; simp; omega
    intro i hi
    obtain ⟨b, off, spot⟩ := x
    have hc := hcell i (by omega)
    have hspot : spot = none := by simpa [Addr.add] using World.cell?_spot (hcell 0 (by omega))
    subst hspot
    rw [Go.WideShapes.add_plain] at hc
    have hmem : zs.getD i 0 ∈ zs := by rw [List.getD_eq_getElem?_getD, List.getElem?_eq_getElem (by omega : i < zs.length)]; exact List.getElem_mem _
    have hw := wf_lo (hws _ hmem)
    exact ⟨b, off, _, rfl, block_lt_of_cell hc, hc, hw.1, hw.2⟩
theorem weightsAll_mem {H : Type} (P : Program) (e : TypeId) (d : DataW H) (n : Nat) (hn : n ∈ d.weights P e) : ∀ l : List (DataW H), d ∈ l → n ∈ DataW.weightsAll P e l
  | [], h => by simp at h
  | x :: r, h => by
    rw [DataW.weightsAll]
    rcases List.mem_cons.1 h with rfl | h
    · exact List.mem_append_left _ hn
    · exact List.mem_append_right _ (weightsAll_mem P e d n hn r h)
set_option maxRecDepth 100000 in
/-- one change, as it is read -/
theorem one_change {H : Type} {enc : TypeId × Value → H} {W : World} {fuel : Nat} {cs : List Value} {x : DataW H × List MemPlace} (h : DataW.trod enc Tryz.prog W 0 (fun _ => true) true fuel 107 cs = some x) :
    ∃ z0 z1 z2 b s, cs = [.int .i64 z0, .int .i64 z1, .int .i64 z2, .bool b, .string s] ∧ (-9223372036854775808 ≤ z0 ∧ z0 ≤ 9223372036854775807) ∧ (-9223372036854775808 ≤ z1 ∧ z1 ≤ 9223372036854775807) ∧ s.data.toList.length ∈ x.1.weights Tryz.prog 107 := by
  obtain ⟨xs, n, _, rfl, hl, hlen, hf⟩ := DataW.trod_struct Tryz.underlying107 h
  rw [cells107] at hl
  match xs, hlen, cs, hl with
  | [y0, y1, y2, y3, y4], _, [c0, c1, c2, c3, c4], _ =>
    have h0 := hf 0 _ rfl
    have h1 := hf 1 _ rfl
    have h2 := hf 2 _ rfl
    have h3 := hf 3 _ rfl
    have h4 := hf 4 _ rfl
    simp [cells3, cells4, cells9, List.drop, List.take] at h0 h1 h2 h3 h4
    obtain ⟨k0, e0, _, w0⟩ := DataW.trod_int Tryz.underlying3 h0
    obtain ⟨k1, e1, _, w1⟩ := DataW.trod_int Tryz.underlying3 h1
    obtain ⟨k2, e2, _, w2⟩ := DataW.trod_int Tryz.underlying3 h2
    obtain ⟨k3, e3, _⟩ := DataW.trod_bool Tryz.underlying4 h3
    obtain ⟨k4, e4, h5⟩ := DataW.trod_string Tryz.underlying9 h4
    simp only [List.cons.injEq, and_true] at e0 e1 e2 e3 e4
    subst e0 e1 e2 e3 e4
    refine ⟨k0, k1, k2, k3, k4, rfl, wf_lo w0, wf_lo w1, ?_⟩
    have e5 : y4.1 = .lit (.string k4.data.toList) := by rw [h5.1]
    show _ ∈ DataW.weights Tryz.prog 107 (.agg [y0.1, y1.1, y2.1, y3.1, y4.1])
    rw [DataW.weights, Tryz.underlying107]
    refine DataW.weights_mem_each (j := 4) (t := 9) (d := y4.1) rfl rfl _ ?_
    rw [e5, DataW.weights]; exact List.mem_singleton.2 rfl
set_option maxRecDepth 100000 in
/-- a list of changes, as it is read -/
theorem chs_read {H : Type} {enc : TypeId × Value → H} {W : World} {a : Option Addr} {len cap : Nat} {d : DataW H} {p : List MemPlace} (h : DataW.Trod enc Tryz.prog W 0 (fun _ => true) true 104 (.slice a len cap) d p) (hw : ∀ n ∈ d.weights Tryz.prog 104, n ≤ 140737488351232) : Chs W a len ∧ len ≤ 140737488355328 := by
  obtain ⟨fuel, hf⟩ := h
  rcases Deep.open_slice Tryz.underlying104 hf with ⟨hv, _⟩ | ⟨x, l, c, m, n, D, Pl, hv, _, hl, _, hm, hx, hcell⟩
  · simp [Value.cells] at hv
    obtain ⟨rfl, rfl, rfl⟩ := hv
    exact ⟨fun i hi => by omega, by omega⟩
  · simp [Value.cells] at hv
    obtain ⟨rfl, rfl, rfl⟩ := hv
    have hlm : len ≤ m := by rw [hm]; simp; omega
    obtain ⟨hd, _⟩ := Prod.mk.inj hx
    rw [hd, DataW.weights, Tryz.underlying104] at hw
    refine ⟨fun i hi => ?_, ?_⟩
    · rw [cells107] at hcell
      obtain ⟨b, o, spot⟩ := x
      have hspot : spot = none := by
        obtain ⟨cs0, hc0, _⟩ := hcell 0 (by omega)
        obtain ⟨_, hl0, hr0⟩ := World.cells?_some hc0
        have h0 := hr0 0 (by omega)
        rw [List.getElem?_eq_getElem (by omega)] at h0
        simpa [Addr.add] using World.cell?_spot h0
      subst hspot
      obtain ⟨cs, hc, ht⟩ := hcell i (by omega)
      obtain ⟨_, _, hr⟩ := World.cells?_some hc
      obtain ⟨z0, z1, z2, bb, s, rfl, w0, w1, ws⟩ := one_change ht
      have r0 := hr 0 (by omega)
      have r1 := hr 1 (by omega)
      have r2 := hr 2 (by omega)
      have r3 := hr 3 (by omega)
      have r4 := hr 4 (by omega)
      rw [add_none, add_none] at r0 r1 r2 r3 r4
      have hsz := hw _ (List.mem_cons_of_mem _ (List.mem_append_left _ (weightsAll_mem Tryz.prog 107 (D i) _ ws _ (List.mem_map.2 ⟨i, List.mem_range.2 hi, rfl⟩))))
      exact ⟨b, o, z0, z1, z2, bb, s, rfl, block_lt_of_cell r0, r0, r1, r2, r3, r4, w0, w1, by simpa using hsz⟩
    · have := hw _ (List.mem_cons_self ..)
      rw [bytes107] at this
      simp at this
      omega

set_option maxRecDepth 100000 in
theorem contract (H : Type) (enc : TypeId × Value → H) (W : World) (base : Nat) (args : Array Value) (ds gs : List (DataW H)) (before : List MemPlace)
    (hval : ∀ (j : Nat) t v, Tryz.f11.params[j]? = some t → args[j]? = some v → Value.okWide Tryz.prog W .any base t v)
    (hW : DataW.Whole enc Tryz.prog Tryz.f11.params.toList Rows.guardedSpec.vars false W args.toList ds gs before)
    (hsz : (DataW.weightsEach Tryz.prog (Tryz.f11.params.toList ++ (OpenSpec.ofChange Rows.guardedSpec).bare.plain.varTypes Tryz.prog) (ds ++ gs)).all (· ≤ reachBytes) = true)
    (hL : laidMetH Tryz.prog Rows.guardedRow.laid W) (hS : W.ShapedOpen Tryz.prog) :
    Calls Tryz.prog 11 args W fun e W' => ∃ v, e = .returned v ∧ Rows.guardedSpec.post enc Tryz.prog Tryz.f11 false true false false W args v W' := by
  have hW' := hW
  obtain ⟨p, q, hA0, hV, rfl, hfz, hnd⟩ := hW
  have hA : DataW.TrodAll enc Tryz.prog W 0 (fun _ => true) true Tryz.f11.params.toList args.toList ds p := hA0
  rw [Tryz.params11] at hA hval hsz
  obtain ⟨v0, vs0, d0, ds0, p0, q0, hargs, rfl, rfl, h0, r0⟩ := trodAll_cons hA
  obtain ⟨v1, vs1, d1, ds1, p1, q1, rfl, rfl, rfl, h1, r1⟩ := trodAll_cons r0
  obtain ⟨v2, vs2, d2, ds2, p2, q2, rfl, rfl, rfl, h2, r2⟩ := trodAll_cons r1
  obtain ⟨v3, vs3, d3, ds3, p3, q3, rfl, rfl, rfl, h3, r3⟩ := trodAll_cons r2
  obtain ⟨rfl, rfl, rfl⟩ := trodAll_nil r3
  obtain rfl : args = #[v0, v1, v2, v3] := by cases args; simp_all
  obtain ⟨rfl, rfl⟩ := trodVars_none hV
  obtain ⟨a1, len1, cap1, rfl⟩ := okWide_slice Tryz.underlying38 (hval 1 38 v1 rfl rfl)
  obtain ⟨a2, len2, cap2, rfl⟩ := okWide_slice Tryz.underlying104 (hval 2 104 v2 rfl rfl)
  obtain ⟨a3, len3, cap3, rfl⟩ := okWide_slice Tryz.underlying39 (hval 3 39 v3 rfl rfl)
  have lt0 : ∀ x ∈ p0, x.block < W.heap.size := by obtain ⟨m, hm⟩ := h0; exact DataW.trod_lt m _ _ _ hm
  have lt1 : ∀ x ∈ p1, x.block < W.heap.size := by obtain ⟨m, hm⟩ := h1; exact DataW.trod_lt m _ _ _ hm
  have lt2 : ∀ x ∈ p2, x.block < W.heap.size := by obtain ⟨m, hm⟩ := h2; exact DataW.trod_lt m _ _ _ hm
  have lt3 : ∀ x ∈ p3, x.block < W.heap.size := by obtain ⟨m, hm⟩ := h3; exact DataW.trod_lt m _ _ _ hm
  have h1le : 4 ≤ W.heap.size := four_le hS
  obtain ⟨hGd, hGr⟩ := tables hL h1le
  obtain ⟨hraw, hlen1⟩ := objs_read h1
  have hnx : len1 ≤ 140737488355328 := by
    rcases hlen1 with rfl | ⟨es, sp, rfl, he⟩
    · omega
    · have hts := sized_slice hsz (j := 1) (t := 38) (e := 72) rfl rfl Tryz.underlying38
      rw [bytes36, show reachBytes = 140737488351232 from rfl] at hts
      omega
  obtain ⟨hchs, hna⟩ := chs_read h2 (fun n hn => by
    have hm := DataW.weights_mem_each (P := Tryz.prog) (ts := [23, 38, 104, 39] ++ (OpenSpec.ofChange Rows.guardedSpec).bare.plain.varTypes Tryz.prog) (ds := [d0, d1, d2, d3] ++ []) (j := 2) (t := 104) (d := d2) rfl rfl n hn
    have := List.all_eq_true.1 hsz n hm
    rw [show reachBytes = 140737488351232 from rfl] at this
    simpa using this)
  have hints := ints_read h3
  obtain ⟨c0, c1, c2, c3, y0, y1, y2, y3, fu, hv0, _, _, g0, g1, g2, g3⟩ := Go.Joins.open_agg4 Tryz.underlying23 (by kernel_rfl) cells23 (hval 0 23 v0 rfl rfl) h0
  subst hv0
  obtain ⟨z0, e0, _, wz0⟩ := DataW.trod_int Tryz.underlying3 g0
  obtain ⟨z1, e1, _, wz1⟩ := DataW.trod_int Tryz.underlying3 g1
  obtain ⟨z2, e2, _, wz2⟩ := DataW.trod_int Tryz.underlying3 g2
  obtain ⟨z3, e3, _, wz3⟩ := DataW.trod_int Tryz.underlying3 g3
  simp at e0 e1 e2 e3
  subst e0 e1 e2 e3
  clear hA0
  have hgo : Calls Tryz.prog 11 #[.agg #[.int .i64 z0, .int .i64 z1, .int .i64 z2, .int .i64 z3], .slice a1 len1 cap1, .slice a2 len2 cap2, .slice a3 len3 cap3] W fun e w' => e = .returned (.bool true) ∧ Below W.heap.size W w' :=
    guardedL kt z0 z1 z2 z3 a1 a2 a3 len1 cap1 len2 cap2 len3 cap3 W (wf_lo wz0).1 (wf_lo wz0).2 (wf_lo wz1).1 (wf_lo wz1).2 (wf_lo wz2).1 (wf_lo wz2).2 (wf_lo wz3).1 (wf_lo wz3).2 hnx hna hraw hchs hints hGd hGr
  refine hgo.mono fun e W' ⟨he, bel⟩ => ?_
  subst he
  exact ⟨_, rfl, _, _, _, [], _, [], hW', trodAll_mk1 (shut_bool Tryz.underlying4 _), (trodAll_cons_mk (Below.trod laidOut (by kernel_rfl) (of_decide_eq_true (by kernel_rfl)) h0 bel lt0) (trodAll_cons_mk (Below.trod laidOut (by kernel_rfl) (of_decide_eq_true (by kernel_rfl)) h1 bel lt1) (trodAll_cons_mk (Below.trod laidOut (by kernel_rfl) (of_decide_eq_true (by kernel_rfl)) h2 bel lt2) (trodAll_cons_mk (Below.trod laidOut (by kernel_rfl) (of_decide_eq_true (by kernel_rfl)) h3 bel lt3) trodAll_mk0)))), rfl, bel.frame _, fun h => by cases h⟩

/-- a world for the witness: the settled one, the tables holding what their initialisers lay -/
def fillBy (cs : Array Value) : Obj → Obj
  | .cells _ t frozen => .cells cs t frozen
  | o => o
def tabCells0 : Array Value := #[.int .u32 1116352408, .int .u32 1899447441, .int .u32 3049323471, .int .u32 3921009573, .int .u32 961987163, .int .u32 1508970993, .int .u32 2453635748, .int .u32 2870763221, .int .u32 3624381080, .int .u32 310598401, .int .u32 607225278, .int .u32 1426881987, .int .u32 1925078388, .int .u32 2162078206, .int .u32 2614888103, .int .u32 3248222580, .int .u32 3835390401, .int .u32 4022224774, .int .u32 264347078, .int .u32 604807628, .int .u32 770255983, .int .u32 1249150122, .int .u32 1555081692, .int .u32 1996064986, .int .u32 2554220882, .int .u32 2821834349, .int .u32 2952996808, .int .u32 3210313671, .int .u32 3336571891, .int .u32 3584528711, .int .u32 113926993, .int .u32 338241895, .int .u32 666307205, .int .u32 773529912, .int .u32 1294757372, .int .u32 1396182291, .int .u32 1695183700, .int .u32 1986661051, .int .u32 2177026350, .int .u32 2456956037, .int .u32 2730485921, .int .u32 2820302411, .int .u32 3259730800, .int .u32 3345764771, .int .u32 3516065817, .int .u32 3600352804, .int .u32 4094571909, .int .u32 275423344, .int .u32 430227734, .int .u32 506948616, .int .u32 659060556, .int .u32 883997877, .int .u32 958139571, .int .u32 1322822218, .int .u32 1537002063, .int .u32 1747873779, .int .u32 1955562222, .int .u32 2024104815, .int .u32 2227730452, .int .u32 2361852424, .int .u32 2428436474, .int .u32 2756734187, .int .u32 3204031479, .int .u32 3329325298]
def tabCells1 : Array Value := (Go.Pinned.utf8FirstZ.map fun n => Value.int .u8 ((n : Nat) : Int)).toArray
def tabCells2 : Array Value := #[.int .u8 128, .int .u8 191, .int .u8 160, .int .u8 191, .int .u8 128, .int .u8 159, .int .u8 144, .int .u8 191, .int .u8 128, .int .u8 143, .int .u8 0, .int .u8 0, .int .u8 0, .int .u8 0, .int .u8 0, .int .u8 0, .int .u8 0, .int .u8 0, .int .u8 0, .int .u8 0, .int .u8 0, .int .u8 0, .int .u8 0, .int .u8 0, .int .u8 0, .int .u8 0, .int .u8 0, .int .u8 0, .int .u8 0, .int .u8 0, .int .u8 0, .int .u8 0]
def tabCells3 : Array Value := #[.int .u32 1779033703, .int .u32 3144134277, .int .u32 1013904242, .int .u32 2773480762, .int .u32 1359893119, .int .u32 2600822924, .int .u32 528734635, .int .u32 1541459225]
theorem laid_met (os : Os) : laidMet Tryz.prog Rows.guardedRow.laid (({ World.holding Tryz.prog os ⟨#[], #[], []⟩ with heap := (((((World.holding Tryz.prog os ⟨#[], #[], []⟩).heap.modify 1 (fillBy tabCells3)).modify 2 (fillBy tabCells0)).modify 3 (fillBy tabCells0)).modify 5 (fillBy tabCells1)).modify 6 (fillBy tabCells2) } : World).forCall (fun _ _ => 0) ⟨#[], #[.agg #[.int .i64 0, .int .i64 0, .int .i64 0, .int .i64 0], .slice none 0 0, .slice none 0 0, .slice none 0 0], []⟩).memory :=
  laidMet_of_run' 8 (by kernel_rfl) (by kernel_rfl)
theorem reads (os : Os) {H : Type} (enc : TypeId × Value → H) : ∃ places, DataW.whole enc Tryz.prog (({ World.holding Tryz.prog os ⟨#[], #[], []⟩ with heap := (((((World.holding Tryz.prog os ⟨#[], #[], []⟩).heap.modify 1 (fillBy tabCells3)).modify 2 (fillBy tabCells0)).modify 3 (fillBy tabCells0)).modify 5 (fillBy tabCells1)).modify 6 (fillBy tabCells2) } : World).forCall (fun _ _ => 0) ⟨#[], #[.agg #[.int .i64 0, .int .i64 0, .int .i64 0, .int .i64 0], .slice none 0 0, .slice none 0 0, .slice none 0 0], []⟩).memory Tryz.f11.params.toList Rows.guardedSpec.vars false #[Value.agg #[.int .i64 0, .int .i64 0, .int .i64 0, .int .i64 0], .slice none 0 0, .slice none 0 0, .slice none 0 0].toList 8 = some ([.agg [.lit (.int .i64 0), .lit (.int .i64 0), .lit (.int .i64 0), .lit (.int .i64 0)], .nil, .nil, .nil], [], places) :=
  ⟨[], by kernel_rfl⟩

set_option maxRecDepth 100000 in
theorem lifted (os : Os) (started : os.Started) (H : Type) (enc : TypeId × Value → H) (F : Stop.Interp) :
    ReturnsInHanded {} Tryz.checked os 11 .any ((OpenSpec.ofChange Rows.guardedSpec).preRow enc Tryz.prog Tryz.f11 Rows.guardedRow.domain false Rows.guardedRow.laid) (((OpenSpec.ofChange Rows.guardedSpec).at F).post enc Tryz.prog Tryz.f11 false true false false) := by
  obtain ⟨places, hx⟩ := reads os enc
  refine returnsInHanded_of_row (C := Tryz.checked) (s := OpenSpec.ofChange Rows.guardedSpec) own started (by kernel_rfl) Tryz.func11
    (witness_row_at (enc := enc) (C := Tryz.checked) false ({ World.holding Tryz.prog os ⟨#[], #[], []⟩ with heap := (((((World.holding Tryz.prog os ⟨#[], #[], []⟩).heap.modify 1 (fillBy tabCells3)).modify 2 (fillBy tabCells0)).modify 3 (fillBy tabCells0)).modify 5 (fillBy tabCells1)).modify 6 (fillBy tabCells2) } : World) #[.agg #[.int .i64 0, .int .i64 0, .int .i64 0, .int .i64 0], .slice none 0 0, .slice none 0 0, .slice none 0 0] rfl (by kernel_rfl) (by kernel_rfl) (by kernel_rfl)
      (OpenSpec.preRow_of_cond 8 hx (by kernel_rfl) (fun k hk => by cases hk) (by kernel_rfl) (laid_met os))) ?_
  intro W base args ds gs before hval hW _ _ hsz hL hS _
  exact contract H enc W base args ds gs before hval hW hsz hL hS

set_option maxRecDepth 100000 in
theorem said : Rows.GuardedSaid :=
  OpenClaim.holds_of_cond 11 Tryz.f11 rfl rfl rfl rfl rfl rfl rfl ⟨rfl, rfl, rfl, rfl, rfl⟩ rfl rfl rfl rfl rfl (by kernel_rfl) Tryz.func11 guardedClosed
    (of_decide_eq_true (by kernel_rfl)) (by unfold Func.isWrapper; first | (rw [if_pos (by decide +kernel)]; kernel_rfl) | (rw [if_neg (by decide +kernel)]; exact ⟨rfl, rfl⟩))
    (fun os started H enc _ F => by rw [OpenClaim.pre_eq_preRow]; exact lifted os started H enc F)

set_option maxRecDepth 100000 in
/-- No parameter wants a stand-in. -/
theorem plain (f : FuncId) (fn : Func) (hf : Tryz.pinned.checked.prog.funcNamed "vault/vaultkeep.Guarded" = some f) (hfn : Tryz.pinned.checked.prog.funcs[f]? = some fn) :
    true = Tryz.pinned.checked.prog.looks [] ∧ ∀ (j : Nat) t, fn.params[j]? = some t → Tryz.pinned.checked.prog.wantsStandIn t = false := by
  obtain rfl : f = 11 := Option.some.inj ((show Tryz.prog.funcNamed "vault/vaultkeep.Guarded" = some 11 by kernel_rfl).symm.trans hf) |>.symm
  obtain rfl : fn = Tryz.f11 := (Option.some.inj (Tryz.func11.symm.trans hfn)).symm
  refine ⟨by kernel_rfl, fun j t ht => ?_⟩
  rw [Tryz.params11] at ht
  have hm := Array.mem_of_getElem? ht
  have hc : t = 23 ∨ t = 38 ∨ t = 104 ∨ t = 39 := by simpa using hm
  rcases hc with rfl | rfl | rfl | rfl
  · exact (show Tryz.prog.wantsStandIn 23 = false by kernel_rfl)
  · exact (show Tryz.prog.wantsStandIn 38 = false by kernel_rfl)
  · exact (show Tryz.prog.wantsStandIn 104 = false by kernel_rfl)
  · exact (show Tryz.prog.wantsStandIn 39 = false by kernel_rfl)

set_option maxRecDepth 100000 in
/-- THE CARD -/
theorem guarded_card : Rows.GuardedCardSaid :=
  Claim7.holds_tied_plain_at .later [] _ _ _ _ said (fun _ h => by cases h) (by kernel_rfl) (fun _ h => by cases h) guarded_row_tie rfl ⟨rfl, rfl⟩ (by kernel_rfl) rfl plain (by kernel_rfl)
end Go.Proofs.YtadinjaocnlglaaGreatDoor
