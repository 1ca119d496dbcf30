/-
  errors.As where the target is a variable of type *api.Missing and the error a *api.Fault over one.
-/
import Derived.Test.YtadinjaocnlglaaGreatDoorZ19
namespace Go.Proofs.YtadinjaocnlglaaGreatDoor
open Go.RowKit Go.Extern.Stop Go.Stop Go.Extern
theorem munpack_at (ty : Nat) (h : ty = 298 ∨ ty = 287) (t : Addr) (w : World) :
    (ReflectliteValue.unpack (.iface ty (.pointer (some t)))).run Tryz.prog w = .ok (rv ty ⟨w.heap.size, 0, none⟩ 150) (w.alloc (.cells #[.pointer (some t)] ty)) := by
  rcases h with rfl | rfl <;> kernel_rfl
theorem mkind_at (ty : Nat) (h : ty = 298 ∨ ty = 287) (w : World) :
    ((ReflectliteType.abiMethod fun t => (fun a : Nat => Value.int IntKind.u8 (a : Int)) <$> Rtype.kind t) #[.pointer (some ⟨7, ty, none⟩)]).run Tryz.prog w = .ok (.int .u8 22) w := by
  rcases h with rfl | rfl <;> kernel_rfl
theorem mparts_at (ty : Nat) (fl : Nat) (h : (ty = 298 ∧ fl = 150) ∨ (ty = 287 ∧ fl = 406) ∨ (ty = 287 ∧ fl = 150)) (a : Addr) (w : World) :
    (ReflectliteValue.parts (rv ty a fl)).run Tryz.prog w = .ok (some (ty, a, fl)) w := by
  rcases h with ⟨rfl, rfl⟩ | ⟨rfl, rfl⟩ | ⟨rfl, rfl⟩ <;> kernel_rfl
theorem mnotNil_at (a p : Addr) (W : World) (ha : W.cell? a = some (.pointer (some p))) :
    (ReflectliteValue.method (ReflectliteValue.valueError "reflectlite.Value.IsNil" 0) ReflectliteValue.isNil #[rv 298 a 150]).run Tryz.prog W = .ok (.bool false) W := by
  have hp : (ReflectliteValue.parts (rv 298 a 150)).run Tryz.prog W = .ok (some (298, a, 150)) W := mparts_at 298 150 (.inl ⟨rfl, rfl⟩) a W
  change (ReflectliteValue.parts (rv 298 a 150) >>= _).run Tryz.prog W = _
  simp only [Sem.run_bind, hp, Result.andThen]
  simp [ReflectliteValue.isNil, loadVar, isAgg, underlying, Tryz.underlying298, ha, Result.andThen]
theorem melem_at (a p : Addr) (W : World) (ha : W.cell? a = some (.pointer (some p))) :
    (ReflectliteValue.method (ReflectliteValue.valueError "reflectlite.Value.Elem" 0) ReflectliteValue.elem #[rv 298 a 150]).run Tryz.prog W = .ok (rv 287 p 406) W := by
  have hp : (ReflectliteValue.parts (rv 298 a 150)).run Tryz.prog W = .ok (some (298, a, 150)) W := mparts_at 298 150 (.inl ⟨rfl, rfl⟩) a W
  have h1 : (Rtype.elem? 298).run Tryz.prog W = .ok (some 287) W := by kernel_rfl
  have h2 : (ReflectliteValue.mk 287 p ReflectliteValue.flagAddr).run Tryz.prog W = .ok (rv 287 p 406) W := by kernel_rfl
  change (ReflectliteValue.parts (rv 298 a 150) >>= _).run Tryz.prog W = _
  simp only [Sem.run_bind, hp, Result.andThen]
  simp [ReflectliteValue.elem, loadVar, isAgg, underlying, Tryz.underlying298, ha, Result.andThen, h1, h2]
theorem mset_at (ta b e : Addr) (old : Value) (W : World) (hb : W.cell? b = some (.pointer (some e))) (ht : W.cell? ta = some old) (hf : W.frozen? ta = false) :
    (ReflectliteValue.set #[rv 287 ta 406, rv 287 b 150]).run Tryz.prog W = .ok (.tuple #[]) (W.setCell ta (.pointer (some e))) := by
  have hp : (ReflectliteValue.parts (rv 287 ta 406)).run Tryz.prog W = .ok (some (287, ta, 406)) W := mparts_at 287 406 (.inr (.inl ⟨rfl, rfl⟩)) ta W
  have hq : (ReflectliteValue.parts (rv 287 b 150)).run Tryz.prog W = .ok (some (287, b, 150)) W := mparts_at 287 150 (.inr (.inr ⟨rfl, rfl⟩)) b W
  have hd : (Rtype.directlyAssignable 287 287).run Tryz.prog W = .ok true W := by kernel_rfl
  change (ReflectliteValue.parts (rv 287 ta 406) >>= _).run Tryz.prog W = _
  have hq' : ∀ h1 h2, (ReflectliteValue.parts ((#[rv 287 ta 406, rv 287 b 150] : Array Value).getLit (n := 2) 1 h1 h2)).run Tryz.prog W = .ok (some (287, b, 150)) W := fun _ _ => hq
  simp only [Sem.run_bind, hp, hq', Result.andThen]
  simp [ReflectliteValue.flagAddr, loadVar, isAgg, underlying, Tryz.underlying287, hb, Result.andThen, hd, storeVar, Value.cells, storeCells, Addr.add]
  rw [run_store Tryz.prog W ta _ _ (by rfl)]
  simp [ht, hf]
/-- The worlds of the walk. -/
abbrev msA (w : World) (t : Addr) : World := w.alloc (.cells #[.pointer (some t)] 298)
abbrev msB (w : World) (t : Addr) : World := (msA w t).alloc (.cells #[.pointer (some ⟨7, 298, none⟩), .pointer (some ⟨w.heap.size, 0, none⟩), .int .u64 150] 339)
abbrev msC (w : World) (t : Addr) : World := (msB w t).alloc (.cells #[.pointer (some ⟨7, 298, none⟩), .pointer (some ⟨w.heap.size, 0, none⟩), .int .u64 150] 339)
abbrev msD (w : World) (t m : Addr) : World := (msC w t).alloc (.cells #[.pointer (some m)] 287)
theorem msB_old (w : World) (t x : Addr) (h : x.block < w.heap.size) : (msB w t).cell? x = w.cell? x := by
  rw [World.cell?_alloc_lt _ _ x (by simp; omega), World.cell?_alloc_lt _ _ x h]
theorem msC_old (w : World) (t x : Addr) (h : x.block < w.heap.size) : (msC w t).cell? x = w.cell? x := by
  rw [World.cell?_alloc_lt _ _ x (by simp; omega)]; exact msB_old w t x h
theorem msD_old (w : World) (t e x : Addr) (h : x.block < w.heap.size) : (msD w t e).cell? x = w.cell? x := by
  rw [World.cell?_alloc_lt _ _ x (by simp; omega)]; exact msC_old w t x h
theorem msD_frozen (w : World) (t e x : Addr) (h : x.block < w.heap.size) : (msD w t e).frozen? x = w.frozen? x := by
  rw [World.frozen?_alloc_old _ _ x (by simp; omega), World.frozen?_alloc_old _ _ x (by simp; omega), World.frozen?_alloc_old _ _ x (by simp; omega), World.frozen?_alloc_old _ _ x (by omega)]
theorem msA_box (w : World) (t : Addr) : (msB w t).cell? ⟨w.heap.size, 0, none⟩ = some (.pointer (some t)) := by simp
theorem msC_box (w : World) (t : Addr) : (msC w t).cell? ⟨w.heap.size, 0, none⟩ = some (.pointer (some t)) := by
  rw [World.cell?_alloc_lt _ _ _ (by simp; omega)]; exact msA_box w t
theorem msD_box (w : World) (t e : Addr) : (msD w t e).cell? ⟨w.heap.size + 1 + 1 + 1, 0, none⟩ = some (.pointer (some e)) := by
  rw [World.cell?_alloc_at _ _ _ _ (by simp)]; rfl
set_option maxRecDepth 100000 in
set_option maxHeartbeats 4000000 in
theorem as_lost (eg : Nat) (m t : Addr) (old : Value) (w : World) (hg : w.cell? ⟨0, 0, none⟩ = some (.iface 376 (rt 63))) (he : w.cell? ⟨eg, 2, none⟩ = some (.iface 287 (.pointer (some m)))) (ht0 : w.cell? t = some old) (hf0 : w.frozen? t = false) :
    Calls Tryz.prog 189 #[.iface 305 (.pointer (some ⟨eg, 0, none⟩)), .iface 298 (.pointer (some t))] w fun ev w' => ev = .returned (.bool true) ∧ w' = (msD w t m).setCell t (.pointer (some m)) := by
  have tl : t.block < w.heap.size := block_lt_of_cell ht0
  have hgB := (msB_old w t ⟨0, 0, none⟩ (block_lt_of_cell hg)).trans hg
  have heC := (msC_old w t ⟨eg, 2, none⟩ (block_lt_of_cell he)).trans he
  have x49 := @run_callFunc_extern Tryz.prog 227 _ (fun args => ReflectliteValue.unpack (args.getD 0 (.tuple #[]))) Tryz.func227 (by kernel_rfl) (by kernel_rfl) (by kernel_rfl) (by kernel_rfl)
  have x50 := @run_callFunc_extern Tryz.prog 228 _ (ReflectliteValue.methodAny (ReflectliteValue.valueError "reflectlite.Value.Type" 0) (fun t _ _ _ => ReflectliteType.toType t)) Tryz.func228 (by kernel_rfl) (by kernel_rfl) (by kernel_rfl) (by kernel_rfl)
  have x51 := @run_callFunc_extern Tryz.prog 229 _ (ReflectliteValue.method (ReflectliteValue.valueError "reflectlite.Value.IsNil" 0) ReflectliteValue.isNil) Tryz.func229 (by kernel_rfl) (by kernel_rfl) (by kernel_rfl) (by kernel_rfl)
  have x58 := @run_callFunc_extern Tryz.prog 267 _ ReflectliteType.typeOf Tryz.func267 (by kernel_rfl) (by kernel_rfl) (by kernel_rfl) (by kernel_rfl)
  have x59 := @run_callFunc_extern Tryz.prog 268 _ (ReflectliteValue.method (ReflectliteValue.valueError "reflectlite.Value.Elem" 0) ReflectliteValue.elem) Tryz.func268 (by kernel_rfl) (by kernel_rfl) (by kernel_rfl) (by kernel_rfl)
  have x60 := @run_callFunc_extern Tryz.prog 269 _ ReflectliteValue.set Tryz.func269 (by kernel_rfl) (by kernel_rfl) (by kernel_rfl) (by kernel_rfl)
  have x76 := @run_callFunc_extern Tryz.prog 357 _ (ReflectliteType.abiMethod fun t => do pure (.int .u8 (← Rtype.kind t))) Tryz.func357 (by kernel_rfl) (by kernel_rfl) (by kernel_rfl) (by kernel_rfl)
  have x92 := @run_callFunc_extern Tryz.prog 371 _ (ReflectliteType.relation "AssignableTo" ReflectliteType.assignableTo) Tryz.func371 (by kernel_rfl) (by kernel_rfl) (by kernel_rfl) (by kernel_rfl)
  have x94 := @run_callFunc_extern Tryz.prog 373 _ (ReflectliteType.method ReflectliteType.elem) Tryz.func373 (by kernel_rfl) (by kernel_rfl) (by kernel_rfl) (by kernel_rfl)
  have x95 := @run_callFunc_extern Tryz.prog 374 _ (ReflectliteType.relation "Implements" ReflectliteType.implements_) Tryz.func374 (by kernel_rfl) (by kernel_rfl) (by kernel_rfl) (by kernel_rfl)
  have y49 := munpack_at 298 (.inl rfl)
  have z49 := munpack_at 287 (.inr rfl)
  have y76 := mkind_at 298 (.inl rfl)
  have z76 := mkind_at 287 (.inr rfl)
  have y50 : ∀ (a : Addr) (u : World), (ReflectliteValue.methodAny (ReflectliteValue.valueError "reflectlite.Value.Type" 0) (fun t _ _ _ => ReflectliteType.toType t) #[rv 298 a 150]).run Tryz.prog u = .ok (.iface 376 (rt 298)) u := fun a u => by kernel_rfl
  have y58 : ∀ (v : Value) (u : World), (ReflectliteType.typeOf #[.iface 305 v]).run Tryz.prog u = .ok (.iface 376 (rt 305)) u := fun v u => by kernel_rfl
  have z58 : ∀ (v : Value) (u : World), (ReflectliteType.typeOf #[.iface 287 v]).run Tryz.prog u = .ok (.iface 376 (rt 287)) u := fun v u => by kernel_rfl
  have y94 : ∀ u : World, (ReflectliteType.method ReflectliteType.elem #[rt 298]).run Tryz.prog u = .ok (.iface 376 (rt 287)) u := fun u => by kernel_rfl
  have y95 : ∀ u : World, (ReflectliteType.relation "Implements" ReflectliteType.implements_ #[rt 287, .iface 376 (rt 63)]).run Tryz.prog u = .ok (.bool true) u := fun u => by kernel_rfl
  have y92 : ∀ u : World, (ReflectliteType.relation "AssignableTo" ReflectliteType.assignableTo #[rt 305, .iface 376 (rt 287)]).run Tryz.prog u = .ok (.bool false) u := fun u => by kernel_rfl
  have z92 : ∀ u : World, (ReflectliteType.relation "AssignableTo" ReflectliteType.assignableTo #[rt 287, .iface 376 (rt 287)]).run Tryz.prog u = .ok (.bool true) u := fun u => by kernel_rfl
  have mK : ∀ (h : Value) (u : World), (Go.method 587 376 (.agg #[h]) "Kind").run Tryz.prog u = .ok (357, h) u := fun h u => by kernel_rfl
  have mE : ∀ (h : Value) (u : World), (Go.method 587 376 (.agg #[h]) "Elem").run Tryz.prog u = .ok (373, .agg #[h]) u := fun h u => by kernel_rfl
  have mI : ∀ (h : Value) (u : World), (Go.method 587 376 (.agg #[h]) "Implements").run Tryz.prog u = .ok (374, .agg #[h]) u := fun h u => by kernel_rfl
  have mA : ∀ (h : Value) (u : World), (Go.method 587 376 (.agg #[h]) "AssignableTo").run Tryz.prog u = .ok (371, .agg #[h]) u := fun h u => by kernel_rfl
  have mU : ∀ (h : Value) (u : World), (Go.method 587 305 h "Unwrap").run Tryz.prog u = .ok (363, h) u := fun h u => by kernel_rfl
  have a1 : ∀ (v : Value) (xT : TypeId) (u : World), (Instr.typeAssert (.iface 305 v) xT 381 true).run Tryz.prog u = .ok (.tuple #[.nilIface, .bool false]) u := fun v xT u => run_typeAssert_lacksB Tryz.underlying381 (by kernel_rfl) (by kernel_rfl) v xT u
  have a2 : ∀ (v : Value) (xT : TypeId) (u : World), (Instr.typeAssert (.iface 305 v) xT 384 true).run Tryz.prog u = .ok (.tuple #[.iface 305 v, .bool true]) u := fun v xT u => run_typeAssert_hasB Tryz.underlying384 (by kernel_rfl) v xT u
  have y51 := mnotNil_at ⟨w.heap.size, 0, none⟩ t (msB w t) (msA_box w t)
  have y59 := melem_at ⟨w.heap.size, 0, none⟩ t (msC w t) (msC_box w t)
  have y60 := mset_at t ⟨w.heap.size + 1 + 1 + 1, 0, none⟩ m old (msD w t m) (msD_box w t m) ((msD_old w t m t tl).trans ht0) ((msD_frozen w t m t tl).trans hf0)
  dsimp only [rt, rv, msA, msB, msC, msD] at *
  go_enter Tryz.func189, Tryz.ntmps189
  go_wp2
  refine wp_loop_rounds 2 ?_
  rw [rounds_succ]
  go_wp2
  rw [rounds_succ]
  go_wp2
  go_ret
  exact ⟨rfl, rfl⟩
end Go.Proofs.YtadinjaocnlglaaGreatDoor
