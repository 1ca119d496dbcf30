/-
  errors.As where the target is a variable of type *fault.Fault: nil gives false; an error that is a *fault.Fault is written into the target. rv: a reflectlite.Value over a variable of type ty at a; rt: reflectlite's name of the type ty. 94: *fault.Fault · 100: a pointer to one · 40: error · 128: reflectlite's rtype · 115: reflectlite.Value.
-/
import Derived.Test.YtadinjaocnlglaaGreatDoorProg
import Derived.WalkKit
import Derived.LaidEql
import Derived.Stop.Asserts
import Derived.RowKitTokens
namespace Go.Proofs.YtadinjaocnlglaaGreatDoor
open Go.RowKit Go.Extern.Stop Go.Stop Go.Extern

theorem as_nil (t : Value) (w : World) :
    Calls Tryz.prog 189 #[.nilIface, t] w fun e w' => e = .returned (.bool false) ∧ w' = w := by
  go_enter Tryz.func189, Tryz.ntmps189
  go_wp2
  go_ret
  exact ⟨rfl, rfl⟩

abbrev rt (ty : Nat) : Value := .agg #[.pointer (some ⟨7, ty, none⟩)]
abbrev rv (ty : Nat) (a : Addr) (fl : Int) : Value := .agg #[.pointer (some ⟨7, ty, none⟩), .pointer (some a), .int .u64 fl]

/-- What the entries that touch no memory answer, at the two types that come up. -/
theorem unpack_at (ty : Nat) (h : ty = 322 ∨ ty = 305) (t : Addr) (w : World) :
    (ReflectliteValue.unpack (.iface ty (.pointer (some t)))).run Tryz.prog w = .ok (rv ty ⟨w.heap.size, 0, none⟩ 150) (w.alloc (.cells #[.pointer (some t)] ty)) := by
  rcases h with rfl | rfl <;> kernel_rfl
theorem kind_at (ty : Nat) (h : ty = 322 ∨ ty = 305) (w : World) :
    ((ReflectliteType.abiMethod fun t => (fun a : Nat => Value.int IntKind.u8 (a : Int)) <$> Rtype.kind t) #[.pointer (some ⟨7, ty, none⟩)]).run Tryz.prog w = .ok (.int .u8 22) w := by
  rcases h with rfl | rfl <;> kernel_rfl
theorem parts_at (ty : Nat) (fl : Nat) (h : (ty = 322 ∧ fl = 150) ∨ (ty = 305 ∧ fl = 406) ∨ (ty = 305 ∧ fl = 150)) (a : Addr) (w : World) :
    (ReflectliteValue.parts (rv ty a fl)).run Tryz.prog w = .ok (some (ty, a, fl)) w := by
  rcases h with ⟨rfl, rfl⟩ | ⟨rfl, rfl⟩ | ⟨rfl, rfl⟩ <;> kernel_rfl

/-- And those that read or write a variable. -/
theorem notNil_at (a p : Addr) (W : World) (ha : W.cell? a = some (.pointer (some p))) :
    (ReflectliteValue.method (ReflectliteValue.valueError "reflectlite.Value.IsNil" 0) ReflectliteValue.isNil #[rv 322 a 150]).run Tryz.prog W = .ok (.bool false) W := by
  have hp : (ReflectliteValue.parts (rv 322 a 150)).run Tryz.prog W = .ok (some (322, a, 150)) W := parts_at 322 150 (.inl ⟨rfl, rfl⟩) a W
  change (ReflectliteValue.parts (rv 322 a 150) >>= _).run Tryz.prog W = _
  simp only [Sem.run_bind, hp, Result.andThen]
  simp [ReflectliteValue.isNil, loadVar, isAgg, underlying, Tryz.underlying322, ha, Result.andThen]
theorem elem_at (a p : Addr) (W : World) (ha : W.cell? a = some (.pointer (some p))) :
    (ReflectliteValue.method (ReflectliteValue.valueError "reflectlite.Value.Elem" 0) ReflectliteValue.elem #[rv 322 a 150]).run Tryz.prog W = .ok (rv 305 p 406) W := by
  have hp : (ReflectliteValue.parts (rv 322 a 150)).run Tryz.prog W = .ok (some (322, a, 150)) W := parts_at 322 150 (.inl ⟨rfl, rfl⟩) a W
  have h1 : (Rtype.elem? 322).run Tryz.prog W = .ok (some 305) W := by kernel_rfl
  have h2 : (ReflectliteValue.mk 305 p ReflectliteValue.flagAddr).run Tryz.prog W = .ok (rv 305 p 406) W := by kernel_rfl
  change (ReflectliteValue.parts (rv 322 a 150) >>= _).run Tryz.prog W = _
  simp only [Sem.run_bind, hp, Result.andThen]
  simp [ReflectliteValue.elem, loadVar, isAgg, underlying, Tryz.underlying322, ha, Result.andThen, h1, h2]
theorem set_at (ta b e : Addr) (old : Value) (W : World) (hb : W.cell? b = some (.pointer (some e))) (ht : W.cell? ta = some old) (hf : W.frozen? ta = false) :
    (ReflectliteValue.set #[rv 305 ta 406, rv 305 b 150]).run Tryz.prog W = .ok (.tuple #[]) (W.setCell ta (.pointer (some e))) := by
  have hp : (ReflectliteValue.parts (rv 305 ta 406)).run Tryz.prog W = .ok (some (305, ta, 406)) W := parts_at 305 406 (.inr (.inl ⟨rfl, rfl⟩)) ta W
  have hq : (ReflectliteValue.parts (rv 305 b 150)).run Tryz.prog W = .ok (some (305, b, 150)) W := parts_at 305 150 (.inr (.inr ⟨rfl, rfl⟩)) b W
  have hd : (Rtype.directlyAssignable 305 305).run Tryz.prog W = .ok true W := by kernel_rfl
  change (ReflectliteValue.parts (rv 305 ta 406) >>= _).run Tryz.prog W = _
  have hq' : ∀ h1 h2, (ReflectliteValue.parts ((#[rv 305 ta 406, rv 305 b 150] : Array Value).getLit (n := 2) 1 h1 h2)).run Tryz.prog W = .ok (some (305, b, 150)) W := fun _ _ => hq
  simp only [Sem.run_bind, hp, hq', Result.andThen]
  simp [ReflectliteValue.flagAddr, loadVar, isAgg, underlying, Tryz.underlying305, hb, Result.andThen, hd, storeVar, Value.cells, storeCells, Addr.add]
  rw [run_store Tryz.prog W ta _ _ (by rfl)]
  simp [ht, hf]

/-- The worlds of the walk: the target's pointer boxed, two Values laid down, the error's pointer boxed. -/
abbrev asA (w : World) (t : Addr) : World := w.alloc (.cells #[.pointer (some t)] 322)
abbrev asB (w : World) (t : Addr) : World := (asA w t).alloc (.cells #[.pointer (some ⟨7, 322, none⟩), .pointer (some ⟨w.heap.size, 0, none⟩), .int .u64 150] 339)
abbrev asC (w : World) (t : Addr) : World := (asB w t).alloc (.cells #[.pointer (some ⟨7, 322, none⟩), .pointer (some ⟨w.heap.size, 0, none⟩), .int .u64 150] 339)
abbrev asD (w : World) (t e : Addr) : World := (asC w t).alloc (.cells #[.pointer (some e)] 305)
theorem asB_old (w : World) (t x : Addr) (h : x.block < w.heap.size) : (asB w t).cell? x = w.cell? x := by
  rw [World.cell?_alloc_lt _ _ x (by simp; omega), World.cell?_alloc_lt _ _ x h]
theorem asD_old (w : World) (t e x : Addr) (h : x.block < w.heap.size) : (asD w t e).cell? x = w.cell? x := by
  rw [World.cell?_alloc_lt _ _ x (by simp; omega), World.cell?_alloc_lt _ _ x (by simp; omega)]; exact asB_old w t x h
theorem asD_frozen (w : World) (t e x : Addr) (h : x.block < w.heap.size) : (asD w t e).frozen? x = w.frozen? x := by
  rw [World.frozen?_alloc_old _ _ x (by simp; omega), World.frozen?_alloc_old _ _ x (by simp; omega), World.frozen?_alloc_old _ _ x (by simp; omega), World.frozen?_alloc_old _ _ x (by omega)]
theorem asA_box (w : World) (t : Addr) : (asB w t).cell? ⟨w.heap.size, 0, none⟩ = some (.pointer (some t)) := by simp
theorem asC_box (w : World) (t : Addr) : (asC w t).cell? ⟨w.heap.size, 0, none⟩ = some (.pointer (some t)) := by
  rw [World.cell?_alloc_lt _ _ _ (by simp; omega)]; exact asA_box w t
theorem asD_box (w : World) (t e : Addr) : (asD w t e).cell? ⟨w.heap.size + 1 + 1 + 1, 0, none⟩ = some (.pointer (some e)) := by
  rw [World.cell?_alloc_at _ _ _ _ (by simp)]; rfl

set_option maxHeartbeats 4000000 in
theorem as_hit (e t : Addr) (old : Value) (w : World) (hg : w.cell? ⟨0, 0, none⟩ = some (.iface 376 (rt 63))) (ht0 : w.cell? t = some old) (hf0 : w.frozen? t = false) :
    Calls Tryz.prog 189 #[.iface 305 (.pointer (some e)), .iface 322 (.pointer (some t))] w fun ev w' => ev = .returned (.bool true) ∧ w' = (asD w t e).setCell t (.pointer (some e)) := by
  have tl : t.block < w.heap.size := block_lt_of_cell ht0
  have hgB := (asB_old w t ⟨0, 0, none⟩ (block_lt_of_cell hg)).trans hg
  -- the entries' rows
  have x49 := @run_callFunc_extern Tryz.prog 227 _ (fun args => ReflectliteValue.unpack (args.getD 0 (.tuple #[]))) Tryz.func227 (by kernel_rfl) (by kernel_rfl) (by kernel_rfl) (by kernel_rfl)
  have x50 := @run_callFunc_extern Tryz.prog 228 _ (ReflectliteValue.methodAny (ReflectliteValue.valueError "reflectlite.Value.Type" 0) (fun t _ _ _ => ReflectliteType.toType t)) Tryz.func228 (by kernel_rfl) (by kernel_rfl) (by kernel_rfl) (by kernel_rfl)
  have x51 := @run_callFunc_extern Tryz.prog 229 _ (ReflectliteValue.method (ReflectliteValue.valueError "reflectlite.Value.IsNil" 0) ReflectliteValue.isNil) Tryz.func229 (by kernel_rfl) (by kernel_rfl) (by kernel_rfl) (by kernel_rfl)
  have x58 := @run_callFunc_extern Tryz.prog 267 _ ReflectliteType.typeOf Tryz.func267 (by kernel_rfl) (by kernel_rfl) (by kernel_rfl) (by kernel_rfl)
  have x59 := @run_callFunc_extern Tryz.prog 268 _ (ReflectliteValue.method (ReflectliteValue.valueError "reflectlite.Value.Elem" 0) ReflectliteValue.elem) Tryz.func268 (by kernel_rfl) (by kernel_rfl) (by kernel_rfl) (by kernel_rfl)
  have x60 := @run_callFunc_extern Tryz.prog 269 _ ReflectliteValue.set Tryz.func269 (by kernel_rfl) (by kernel_rfl) (by kernel_rfl) (by kernel_rfl)
  have x76 := @run_callFunc_extern Tryz.prog 357 _ (ReflectliteType.abiMethod fun t => do pure (.int .u8 (← Rtype.kind t))) Tryz.func357 (by kernel_rfl) (by kernel_rfl) (by kernel_rfl) (by kernel_rfl)
  have x92 := @run_callFunc_extern Tryz.prog 371 _ (ReflectliteType.relation "AssignableTo" ReflectliteType.assignableTo) Tryz.func371 (by kernel_rfl) (by kernel_rfl) (by kernel_rfl) (by kernel_rfl)
  have x94 := @run_callFunc_extern Tryz.prog 373 _ (ReflectliteType.method ReflectliteType.elem) Tryz.func373 (by kernel_rfl) (by kernel_rfl) (by kernel_rfl) (by kernel_rfl)
  have x95 := @run_callFunc_extern Tryz.prog 374 _ (ReflectliteType.relation "Implements" ReflectliteType.implements_) Tryz.func374 (by kernel_rfl) (by kernel_rfl) (by kernel_rfl) (by kernel_rfl)
  -- what they answer
  have y49 := unpack_at 322 (.inl rfl)
  have z49 := unpack_at 305 (.inr rfl)
  have y76 := kind_at 322 (.inl rfl)
  have z76 := kind_at 305 (.inr rfl)
  have y50 : ∀ (a : Addr) (u : World), (ReflectliteValue.methodAny (ReflectliteValue.valueError "reflectlite.Value.Type" 0) (fun t _ _ _ => ReflectliteType.toType t) #[rv 322 a 150]).run Tryz.prog u = .ok (.iface 376 (rt 322)) u := fun a u => by kernel_rfl
  have y58 : ∀ (v : Value) (u : World), (ReflectliteType.typeOf #[.iface 305 v]).run Tryz.prog u = .ok (.iface 376 (rt 305)) u := fun v u => by kernel_rfl
  have y94 : ∀ u : World, (ReflectliteType.method ReflectliteType.elem #[rt 322]).run Tryz.prog u = .ok (.iface 376 (rt 305)) u := fun u => by kernel_rfl
  have y95 : ∀ u : World, (ReflectliteType.relation "Implements" ReflectliteType.implements_ #[rt 305, .iface 376 (rt 63)]).run Tryz.prog u = .ok (.bool true) u := fun u => by kernel_rfl
  have y92 : ∀ u : World, (ReflectliteType.relation "AssignableTo" ReflectliteType.assignableTo #[rt 305, .iface 376 (rt 305)]).run Tryz.prog u = .ok (.bool true) u := fun u => by kernel_rfl
  have mK : ∀ (h : Value) (u : World), (Go.method 587 376 (.agg #[h]) "Kind").run Tryz.prog u = .ok (357, h) u := fun h u => by kernel_rfl
  have mE : ∀ (h : Value) (u : World), (Go.method 587 376 (.agg #[h]) "Elem").run Tryz.prog u = .ok (373, .agg #[h]) u := fun h u => by kernel_rfl
  have mI : ∀ (h : Value) (u : World), (Go.method 587 376 (.agg #[h]) "Implements").run Tryz.prog u = .ok (374, .agg #[h]) u := fun h u => by kernel_rfl
  have mA : ∀ (h : Value) (u : World), (Go.method 587 376 (.agg #[h]) "AssignableTo").run Tryz.prog u = .ok (371, .agg #[h]) u := fun h u => by kernel_rfl
  have y51 := notNil_at ⟨w.heap.size, 0, none⟩ t (asB w t) (asA_box w t)
  have y59 := elem_at ⟨w.heap.size, 0, none⟩ t (asC w t) (asC_box w t)
  have y60 := set_at t ⟨w.heap.size + 1 + 1 + 1, 0, none⟩ e old (asD w t e) (asD_box w t e) ((asD_old w t e t tl).trans ht0) ((asD_frozen w t e t tl).trans hf0)
  dsimp only [rt, rv, asA, asB, asC, asD] at *
  go_enter Tryz.func189, Tryz.ntmps189
  go_wp2
  refine wp_loop_rounds 1 ?_
  rw [rounds_succ]
  go_wp2
  go_ret
  exact ⟨rfl, rfl⟩
end Go.Proofs.YtadinjaocnlglaaGreatDoor
