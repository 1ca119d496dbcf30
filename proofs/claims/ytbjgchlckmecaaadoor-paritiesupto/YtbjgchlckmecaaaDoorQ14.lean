/-
  The card of Parities, where what is read is of bulk at most 1048576.
-/
import Derived.Test.YtbjgchlckmecaaaDoorCards
import Derived.Test.YtbjgchlckmecaaaDoorTie
import Derived.Test.YtbjgchlckmecaaaDoorQ13
import Derived.WalkKit
import Derived.ProofKit
import Derived.OpenShut
import Derived.ShutString
import Derived.ChangeOld
import Derived.Below
import Derived.SliceStrings
import Derived.SizedLaws
import Derived.LaidHandle
import Derived.Deep.DeepHandedRow
import Derived.Deep.Slices
import Derived.Lib.SmallJoins
import Derived.Lib.LaidTab
import Derived.Stop.LaidErr
namespace Go.Proofs.YtbjgchlckmecaaaDoor
open Go.ChangeShapes Go.WideShapes Go.ChangeAt Go.RowKit
set_option maxRecDepth 100000
theorem own : ownKnob Tryd.prog.godebug = none := by kernel_rfl
theorem laidOut : laidOutB Tryd.prog = true := by kernel_rfl
theorem gErr : Tryd.prog.globalNamed "errors.errorType" = some 0 := by kernel_rfl
theorem rtRow : (Tryd.prog.cutTypes.find? (·.1 == "internal/reflectlite.rtype")).map (·.2) = some 128 := by kernel_rfl
theorem typesSize : Tryd.prog.types.size = 172 := by kernel_rfl
theorem oneRow : ((List.range 172).filter fun t => Tryd.prog.rowNamed t [101, 114, 114, 111, 114]) = [40] := by kernel_rfl
theorem cells34 : Tryd.prog.cellsOf 34 = 4 := by kernel_rfl
theorem cells3 : Tryd.prog.cellsOf 3 = 1 := by kernel_rfl
theorem cells31 : Tryd.prog.cellsOf 31 = 1 := by kernel_rfl
theorem cells32 : Tryd.prog.cellsOf 32 = 1 := by kernel_rfl
theorem cells9 : Tryd.prog.cellsOf 9 = 1 := by kernel_rfl
theorem cells4 : Tryd.prog.cellsOf 4 = 1 := by kernel_rfl
/-- the variable's one cell -/
theorem handle_of_laid {W : World} (h : laidMetH Tryd.prog Rows.paritiesUptoRow.laid W) : W.cell? ⟨0, 0, none⟩ = some (.iface 128 (.agg #[.pointer (some ⟨1, 40, none⟩)])) := by
  have h' : laidMet Tryd.prog [] W ∧ handlesMet Tryd.prog Rows.paritiesUptoRow.laid W := h
  obtain ⟨name, u, ty, e1, e2, e3, e4, e5⟩ := h'.2 _ (List.mem_singleton.2 rfl)
  have en : name = [101, 114, 114, 111, 114] := (Option.some.inj e1).symm
  subst en
  obtain rfl := Option.some.inj (rtRow.symm.trans e2)
  have hm : ty ∈ (List.range 172).filter fun t => Tryd.prog.rowNamed t [101, 114, 114, 111, 114] := List.mem_filter.2 ⟨List.mem_range.2 (by rw [← typesSize]; exact e3), e4⟩
  rw [oneRow] at hm
  obtain rfl := List.mem_singleton.1 hm
  have hh : typeHandle Tryd.prog 40 = .pointer (some ⟨1, 40, none⟩) := by kernel_rfl
  rw [hh] at e5
  simpa using World.var?_cell gErr e5 0
theorem bulk_mem {H : Type} {d : DataW H} : ∀ {l : List (DataW H)}, d ∈ l → Rows.uptoBulk d ≤ Rows.uptoBulkAll l
  | [], h => by cases h
  | x :: r, h => by
    rw [Rows.uptoBulkAll]
    rcases List.mem_cons.1 h with rfl | h
    · omega
    · have := bulk_mem h; omega
theorem bulk_pos {H : Type} (d : DataW H) : 1 ≤ Rows.uptoBulk d := by
  cases d with
  | lit l => cases l <;> simp [Rows.uptoBulk]
  | _ => simp [Rows.uptoBulk]
theorem bulk_len {H : Type} : ∀ l : List (DataW H), l.length ≤ Rows.uptoBulkAll l
  | [] => by simp
  | x :: r => by
    have := bulk_len r
    have := bulk_pos x
    rw [Rows.uptoBulkAll, List.length_cons]; omega
theorem add_none (b o j : Nat) : (⟨b, o, none⟩ : Addr).add j = ⟨b, o + j, none⟩ := by cases j <;> rfl
section
variable {H : Type} {enc : TypeId × Value → H} {W : World}
theorem open_code {fuel : Nat} {cs : List Value} {x : DataW H × List MemPlace} (h : DataW.trod enc Tryd.prog W 0 (fun _ => true) true fuel 34 cs = some x) :
    ∃ K M v2 v3 y2 y3 p2 p3 n, cs = [.int .i64 K, .int .i64 M, v2, v3] ∧ x.1 = .agg [.lit (.int .i64 K), .lit (.int .i64 M), y2, y3] ∧ DataW.trod enc Tryd.prog W 0 (fun _ => true) true n 31 [v2] = some (y2, p2) ∧ DataW.trod enc Tryd.prog W 0 (fun _ => true) true n 32 [v3] = some (y3, p3) := by
  obtain ⟨y0, y1, y2, y3, n, rfl, hl, h0, h1, h2, h3⟩ := Joins.trod_struct4 Tryd.underlying34 h
  rw [cells34] at hl
  match cs, hl with
  | [c0, c1, c2, c3], _ =>
    simp only [cells3, cells31, cells32, List.drop, List.take] at h0 h1 h2 h3
    obtain ⟨K, e0, rfl, _⟩ := DataW.trod_int Tryd.underlying3 h0
    obtain ⟨M, e1, rfl, _⟩ := DataW.trod_int Tryd.underlying3 h1
    simp only [List.cons.injEq, and_true] at e0 e1
    subst e0
    subst e1
    exact ⟨K, M, c2, c3, y2.1, y3.1, y2.2, y3.2, n, rfl, rfl, h2, h3⟩
theorem open_blocks {fuel : Nat} {v : Value} {y : DataW H} {p : List MemPlace} (h : DataW.trod enc Tryd.prog W 0 (fun _ => true) true fuel 31 [v] = some (y, p)) (hb : Rows.uptoBulk y ≤ 1048576) : ∃ a n c L, v = .slice a n c ∧ Arg W a n c L := by
  rcases open_strings Tryd.underlying31 Tryd.underlying9 cells9 h with ⟨hv, _⟩ | ⟨x, l, c, ss, hv, _, hl, _, hz, hx, hcell, _⟩
  · simp only [List.cons.injEq, and_true] at hv
    exact ⟨none, 0, 0, fun _ => ByteArray.empty, hv, ⟨fun i hi => by omega, by omega, fun _ => rfl, fun i hi => by omega⟩⟩
  · simp only [List.cons.injEq, and_true] at hv
    simp only [if_true] at hz
    obtain ⟨rfl, _⟩ := Prod.mk.inj hx
    have hbk : Rows.uptoBulkAll (strs (H := H) (ss.take l)) ≤ 1048576 := by rw [Rows.uptoBulk] at hb; omega
    have hln := bulk_len (strs (H := H) (ss.take l))
    have hl2 : (strs (H := H) (ss.take l)).length = min l ss.length := by rw [strs, List.length_map, List.length_take]
    rw [hl2] at hln
    refine ⟨some x, l, c, fun i => ss.getD i ByteArray.empty, hv, ⟨fun i hi => ?_, by omega, (fun e => by cases e), fun i hi => ?_⟩⟩
    · obtain ⟨b, off, spot⟩ := x
      have c0 := hcell 0 (by omega)
      have hspot : spot = none := by simpa [Addr.add] using World.cell?_spot c0
      subst hspot
      have ci := hcell i (by omega)
      rw [add_none] at ci
      exact ⟨b, off, rfl, block_lt_of_cell ci, ci⟩
    · have hlt : i < ss.length := by omega
      have hm : (.lit (.string (ss.getD i ByteArray.empty).data.toList) : DataW H) ∈ strs (ss.take l) := by
        rw [List.getD_eq_getElem?_getD, List.getElem?_eq_getElem hlt, Option.getD_some]
        refine List.mem_map.2 ⟨ss[i], ?_, rfl⟩
        rw [List.mem_iff_getElem?]
        exact ⟨i, by rw [List.getElem?_take, if_pos hi, List.getElem?_eq_getElem hlt]⟩
      have := bulk_mem hm
      rw [Rows.uptoBulk] at this
      have e : (ss.getD i ByteArray.empty).data.toList.length = (ss.getD i ByteArray.empty).size := by simp
      show (ss.getD i ByteArray.empty).size ≤ 1048576
      omega
theorem open_has {fuel : Nat} {v : Value} {y : DataW H} {p : List MemPlace} (h : DataW.trod enc Tryd.prog W 0 (fun _ => true) true fuel 32 [v] = some (y, p)) (hb : Rows.uptoBulk y ≤ 1048576) : ∃ a n c B, v = .slice a n c ∧ ArgB W a n c B ∧ (a = none → c = 0) := by
  rcases Deep.open_slice1 Tryd.underlying32 cells4 h with ⟨hv, _⟩ | ⟨x, l, c, m, n, V, D, Pl, hv, _, hl, _, hm, hx, hcell⟩
  · simp only [List.cons.injEq, and_true] at hv
    exact ⟨none, 0, 0, fun _ => false, hv, ⟨fun i hi => by omega, by omega, fun _ => rfl⟩, fun _ => rfl⟩
  · simp only [List.cons.injEq, and_true] at hv
    simp only [if_true] at hm
    obtain ⟨rfl, _⟩ := Prod.mk.inj hx
    have hln := bulk_len ((List.range l).map D)
    rw [List.length_map, List.length_range] at hln
    have hb2 : Rows.uptoBulkAll ((List.range l).map D) ≤ 1048576 := by rw [Rows.uptoBulk] at hb; omega
    refine ⟨some x, l, c, fun i => match V i with | .bool b => b | _ => false, hv, ⟨fun i hi => ?_, by omega, fun e => by cases e⟩, fun e => by cases e⟩
    obtain ⟨b, off, spot⟩ := x
    have c0 := (hcell 0 (by omega)).1
    have hspot : spot = none := by simpa [Addr.add] using World.cell?_spot c0
    subst hspot
    obtain ⟨ci, ht⟩ := hcell i (by omega)
    rw [add_none] at ci
    obtain ⟨bb, e, _⟩ := DataW.trod_bool Tryd.underlying4 ht
    simp only [List.cons.injEq, and_true] at e
    rw [e] at ci
    exact ⟨b, off, rfl, block_lt_of_cell ci, by rw [ci, e]⟩
theorem open_codes {fuel : Nat} {a0 : Option Addr} {len cap : Nat} {x : DataW H × List MemPlace} (h : DataW.trod enc Tryd.prog W 0 (fun _ => true) true fuel 22 [.slice a0 len cap] = some x) (hb : Rows.uptoBulk x.1 ≤ 1048576) :
    len ≤ 1048576 ∧ ∀ i, i < len → ∃ b o, a0 = some ⟨b, o, none⟩ ∧ b < W.heap.size ∧ ∃ K M a1 n1 c1 L a2 n2 c2 B, CodeAt W b o i K M a1 n1 c1 L a2 n2 c2 B := by
  rcases Deep.open_slice Tryd.underlying22 h with ⟨hv, _⟩ | ⟨a, l, c, m, n, D, Pl, hv, _, hl, _, hm, hx, hcell⟩
  · simp only [List.cons.injEq, and_true, Value.slice.injEq] at hv
    exact ⟨by omega, fun i hi => by omega⟩
  · simp only [List.cons.injEq, and_true, Value.slice.injEq] at hv
    obtain ⟨rfl, rfl, rfl⟩ := hv
    simp only [if_true] at hm
    subst hx
    have hln := bulk_len ((List.range len).map D)
    rw [List.length_map, List.length_range] at hln
    have hb2 : Rows.uptoBulkAll ((List.range len).map D) ≤ 1048576 := by simp only [Rows.uptoBulk] at hb; omega
    refine ⟨by omega, fun i hi => ?_⟩
    rw [cells34] at hcell
    obtain ⟨b, o, spot⟩ := a
    have hspot : spot = none := by
      obtain ⟨cs0, hc0, _⟩ := hcell 0 (by omega)
      obtain ⟨_, hl0, hr0⟩ := World.cells?_some hc0
      have h0 := hr0 0 (by omega)
      rw [List.getElem?_eq_getElem (by omega)] at h0
      simpa [Addr.add] using World.cell?_spot h0
    subst hspot
    obtain ⟨cs, hc, ht⟩ := hcell i (by omega)
    obtain ⟨_, hl4, hr⟩ := World.cells?_some hc
    obtain ⟨K, M, v2, v3, y2, y3, p2, p3, n', rfl, hD, h2, h3⟩ := open_code ht
    have hDi : Rows.uptoBulk (D i) ≤ 1048576 := Nat.le_trans (bulk_mem (List.mem_map.2 ⟨i, List.mem_range.2 hi, rfl⟩)) hb2
    have hD' : D i = .agg [.lit (.int .i64 K), .lit (.int .i64 M), y2, y3] := hD
    rw [hD'] at hDi
    simp only [Rows.uptoBulk, Rows.uptoBulkAll] at hDi
    obtain ⟨a1, n1, c1, L, rfl, hA1⟩ := open_blocks h2 (by omega)
    obtain ⟨a2, n2, c2, B, rfl, hA2, hz⟩ := open_has h3 (by omega)
    have r0 := hr 0 (by omega)
    have r1 := hr 1 (by omega)
    have r2 := hr 2 (by omega)
    have r3 := hr 3 (by omega)
    rw [add_none, add_none] at r0 r1 r2 r3
    exact ⟨b, o, rfl, block_lt_of_cell r0, K, M, a1, n1, c1, L, a2, n2, c2, B, r0, r1, r2, r3, hA1, hA2, hz⟩
end
theorem contract (H : Type) (enc : TypeId × Value → H) (W : World) (base : Nat) (args : Array Value) (ds gs : List (DataW H)) (before : List MemPlace)
    (hval : ∀ (j : Nat) t v, Tryd.f3.params[j]? = some t → args[j]? = some v → Value.okWide Tryd.prog W .any base t v)
    (hW : DataW.Whole enc Tryd.prog Tryd.f3.params.toList Rows.paritiesSpec.vars false W args.toList ds gs before)
    (hk : Rows.uptoSmall H (ds ++ gs) = true)
    (hL : laidMetH Tryd.prog Rows.paritiesUptoRow.laid W) :
    Calls Tryd.prog 3 args W fun e W' => ∃ v, e = .returned v ∧ Rows.paritiesSpec.post enc Tryd.prog Tryd.f3 false true false false W args v W' := by
  have hW' := hW
  obtain ⟨p, q, hA0, hV, rfl, hfz, hnd⟩ := hW
  have hA : DataW.TrodAll enc Tryd.prog W 0 (fun _ => true) true Tryd.f3.params.toList args.toList ds p := hA0
  rw [Tryd.params3] at hA hval
  obtain ⟨v0, vs0, d0, ds0, p0, q0, hargs, rfl, rfl, h0, r0⟩ := trodAll_cons hA
  obtain ⟨rfl, rfl, rfl⟩ := trodAll_nil r0
  obtain rfl : args = #[v0] := by cases args; simp_all
  obtain ⟨rfl, rfl⟩ := trodVars_none hV
  obtain ⟨a0, len0, cap0, rfl⟩ := okWide_slice Tryd.underlying22 (hval 0 22 v0 rfl rfl)
  have k0 := h0
  have lt0 : ∀ x ∈ p0, x.block < W.heap.size := by obtain ⟨m, hm⟩ := k0; exact DataW.trod_lt m _ _ _ hm
  have hbk : Rows.uptoBulk d0 ≤ 1048576 := by
    have h1 := of_decide_eq_true hk
    simp only [List.cons_append, List.nil_append, Rows.uptoBulkAll] at h1
    omega
  obtain ⟨fuel, hf⟩ := h0
  obtain ⟨hlen, hT⟩ := open_codes hf hbk
  clear hA0
  refine (parities_any a0 len0 cap0 W (handle_of_laid hL) hlen hT).mono fun e W' ⟨he, bel⟩ => ?_
  subst he
  exact ⟨_, rfl, _, _, _, [], _, [], hW', trodAll_mk1 (shut_bool Tryd.underlying4 _), (trodAll_cons_mk (Below.trod laidOut (by kernel_rfl) (of_decide_eq_true (by kernel_rfl)) k0 bel lt0) trodAll_mk0), rfl, bel.frame _, fun h => by cases h⟩
/-- a block's cells laid anew -/
def fillBy (cs : Array Value) : Obj → Obj
  | .cells _ t frozen => .cells cs t frozen
  | o => o
theorem laid_met (os : Os) : laidMetH Tryd.prog Rows.paritiesUptoRow.laid (({ World.holding Tryd.prog os ⟨#[], #[], []⟩ with heap := (World.holding Tryd.prog os ⟨#[], #[], []⟩).heap.modify 0 (fillBy #[.iface 128 (.agg #[.pointer (some ⟨1, 40, none⟩)])]) } : World).forCall (fun _ _ => 0) ⟨#[], #[.slice none 0 0], []⟩).memory :=
  laidMetH_of_parts (laidMet_nil _ _) (by kernel_rfl)
theorem reads (os : Os) {H : Type} (enc : TypeId × Value → H) : ∃ places, DataW.whole enc Tryd.prog (({ World.holding Tryd.prog os ⟨#[], #[], []⟩ with heap := (World.holding Tryd.prog os ⟨#[], #[], []⟩).heap.modify 0 (fillBy #[.iface 128 (.agg #[.pointer (some ⟨1, 40, none⟩)])]) } : World).forCall (fun _ _ => 0) ⟨#[], #[.slice none 0 0], []⟩).memory Tryd.f3.params.toList Rows.paritiesSpec.vars false #[Value.slice none 0 0].toList 8 = some ([.nil], [], places) :=
  ⟨[], by kernel_rfl⟩
theorem liftedUpto (os : Os) (started : os.Started) (H : Type) (enc : TypeId × Value → H) (F : Stop.Interp) :
    ReturnsInHanded {} Tryd.checked os 3 .any ((Rows.OpenSpec.upto Rows.paritiesSpec).preRow enc Tryd.prog Tryd.f3 Rows.paritiesUptoRow.domain false Rows.paritiesUptoRow.laid) (((Rows.OpenSpec.upto Rows.paritiesSpec).at F).post enc Tryd.prog Tryd.f3 false true false false) := by
  obtain ⟨places, hx⟩ := reads os enc
  refine returnsInHanded_of_row (C := Tryd.checked) (s := Rows.OpenSpec.upto Rows.paritiesSpec) own started (by kernel_rfl) Tryd.func3
    (witness_row_at (enc := enc) (C := Tryd.checked) false ({ World.holding Tryd.prog os ⟨#[], #[], []⟩ with heap := (World.holding Tryd.prog os ⟨#[], #[], []⟩).heap.modify 0 (fillBy #[.iface 128 (.agg #[.pointer (some ⟨1, 40, none⟩)])]) } : World) #[.slice none 0 0] rfl (by kernel_rfl) (by kernel_rfl) (by kernel_rfl)
      (OpenSpec.preRow_of_cond 8 hx (by kernel_rfl) (fun k hk => by cases hk; kernel_rfl) (by kernel_rfl) (laid_met os))) ?_
  intro W base args ds gs before hval hW _ hcond _ hL _ _
  exact contract H enc W base args ds gs before hval hW (hcond _ rfl) hL
theorem saidUpto : Rows.ParitiesUptoSaid :=
  OpenClaim.holds_of_cond 3 Tryd.f3 rfl rfl rfl rfl rfl rfl rfl ⟨rfl, rfl, rfl, rfl, rfl⟩ rfl rfl rfl rfl rfl (by kernel_rfl) Tryd.func3 (by kernel_rfl)
    (of_decide_eq_true (by kernel_rfl)) (by unfold Func.isWrapper; first | (rw [if_pos (by decide +kernel)]; kernel_rfl) | (rw [if_neg (by decide +kernel)]; exact ⟨rfl, rfl⟩))
    (fun os started H enc _ F => by rw [OpenClaim.pre_eq_preRow]; exact liftedUpto os started H enc F)
/-- No parameter wants a stand-in. -/
theorem plain (f : FuncId) (fn : Func) (hf : Tryd.pinned.checked.prog.funcNamed "vault/vaultlaw.Parities" = some f) (hfn : Tryd.pinned.checked.prog.funcs[f]? = some fn) :
    true = Tryd.pinned.checked.prog.looks [] ∧ ∀ (j : Nat) t, fn.params[j]? = some t → Tryd.pinned.checked.prog.wantsStandIn t = false := by
  obtain rfl : f = 3 := Option.some.inj ((show Tryd.prog.funcNamed "vault/vaultlaw.Parities" = some 3 by kernel_rfl).symm.trans hf) |>.symm
  obtain rfl : fn = Tryd.f3 := (Option.some.inj (Tryd.func3.symm.trans hfn)).symm
  refine ⟨by kernel_rfl, fun j t ht => ?_⟩
  rw [Tryd.params3] at ht
  obtain rfl : t = 22 := by simpa using Array.mem_of_getElem? ht
  exact (show Tryd.prog.wantsStandIn 22 = false by kernel_rfl)
/-- THE CARD -/
theorem parities_upto_card : Rows.ParitiesUptoCardSaid :=
  Claim7.holds_tied_plain_at .later [] _ _ _ _ saidUpto (fun _ h => by cases h) (by kernel_rfl) (fun _ h => by cases h) paritiesUpto_row_tie rfl ⟨rfl, rfl⟩ (by kernel_rfl) rfl plain (by kernel_rfl)
end Go.Proofs.YtbjgchlckmecaaaDoor
