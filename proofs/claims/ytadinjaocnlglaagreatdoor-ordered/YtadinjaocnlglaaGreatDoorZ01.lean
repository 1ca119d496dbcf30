/-
  errors.As where the target is a variable of type *fault.Fault: nil gives false; an error that is a *fault.Fault is written into the target. rv: a reflectlite.Value over a variable of type ty at a; rt: reflectlite's name of the type ty. 94: *fault.Fault · 100: a pointer to one · 40: error · 128: reflectlite's rtype · 115: reflectlite.Value.
  Plain mathematics, of no program: polynomials over a field in which every number is its own negative; Lagrange's sum.
-/
import Derived.Test.YtadinjaocnlglaaGreatDoorProg
import Derived.WalkKit
import Derived.LaidEql
import Derived.Stop.Asserts
import Derived.RowKitTokens
namespace Go.Proofs.YtadinjaocnlglaaGreatDoor
open Go.RowKit Go.Extern.Stop Go.Stop Go.Extern

theorem as_nil (t : Value) (w : World) :
    Calls Tryz.prog 189 #[.nilIface, t] w fun e w' => e = .returned (.bool false) ∧ w' = w := by
  go_enter Tryz.func189, Tryz.ntmps189
  go_wp2
  go_ret
  exact ⟨rfl, rfl⟩

abbrev rt (ty : Nat) : Value := .agg #[.pointer (some ⟨7, ty, none⟩)]
abbrev rv (ty : Nat) (a : Addr) (fl : Int) : Value := .agg #[.pointer (some ⟨7, ty, none⟩), .pointer (some a), .int .u64 fl]

/-- What the entries that touch no memory answer, at the two types that come up. -/
theorem unpack_at (ty : Nat) (h : ty = 322 ∨ ty = 305) (t : Addr) (w : World) :
    (ReflectliteValue.unpack (.iface ty (.pointer (some t)))).run Tryz.prog w = .ok (rv ty ⟨w.heap.size, 0, none⟩ 150) (w.alloc (.cells #[.pointer (some t)] ty)) := by
  rcases h with rfl | rfl <;> kernel_rfl
theorem kind_at (ty : Nat) (h : ty = 322 ∨ ty = 305) (w : World) :
    ((ReflectliteType.abiMethod fun t => (fun a : Nat => Value.int IntKind.u8 (a : Int)) <$> Rtype.kind t) #[.pointer (some ⟨7, ty, none⟩)]).run Tryz.prog w = .ok (.int .u8 22) w := by
  rcases h with rfl | rfl <;> kernel_rfl
theorem parts_at (ty : Nat) (fl : Nat) (h : (ty = 322 ∧ fl = 150) ∨ (ty = 305 ∧ fl = 406) ∨ (ty = 305 ∧ fl = 150)) (a : Addr) (w : World) :
    (ReflectliteValue.parts (rv ty a fl)).run Tryz.prog w = .ok (some (ty, a, fl)) w := by
  rcases h with ⟨rfl, rfl⟩ | ⟨rfl, rfl⟩ | ⟨rfl, rfl⟩ <;> kernel_rfl

/-- And those that read or write a variable. -/
theorem notNil_at (a p : Addr) (W : World) (ha : W.cell? a = some (.pointer (some p))) :
    (ReflectliteValue.method (ReflectliteValue.valueError "reflectlite.Value.IsNil" 0) ReflectliteValue.isNil #[rv 322 a 150]).run Tryz.prog W = .ok (.bool false) W := by
  have hp : (ReflectliteValue.parts (rv 322 a 150)).run Tryz.prog W = .ok (some (322, a, 150)) W := parts_at 322 150 (.inl ⟨rfl, rfl⟩) a W
  change (ReflectliteValue.parts (rv 322 a 150) >>= _).run Tryz.prog W = _
  simp only [Sem.run_bind, hp, Result.andThen]
  simp [ReflectliteValue.isNil, loadVar, isAgg, underlying, Tryz.underlying322, ha, Result.andThen]
theorem elem_at (a p : Addr) (W : World) (ha : W.cell? a = some (.pointer (some p))) :
    (ReflectliteValue.method (ReflectliteValue.valueError "reflectlite.Value.Elem" 0) ReflectliteValue.elem #[rv 322 a 150]).run Tryz.prog W = .ok (rv 305 p 406) W := by
  have hp : (ReflectliteValue.parts (rv 322 a 150)).run Tryz.prog W = .ok (some (322, a, 150)) W := parts_at 322 150 (.inl ⟨rfl, rfl⟩) a W
  have h1 : (Rtype.elem? 322).run Tryz.prog W = .ok (some 305) W := by kernel_rfl
  have h2 : (ReflectliteValue.mk 305 p ReflectliteValue.flagAddr).run Tryz.prog W = .ok (rv 305 p 406) W := by kernel_rfl
  change (ReflectliteValue.parts (rv 322 a 150) >>= _).run Tryz.prog W = _
  simp only [Sem.run_bind, hp, Result.andThen]
  simp [ReflectliteValue.elem, loadVar, isAgg, underlying, Tryz.underlying322, ha, Result.andThen, h1, h2]
theorem set_at (ta b e : Addr) (old : Value) (W : World) (hb : W.cell? b = some (.pointer (some e))) (ht : W.cell? ta = some old) (hf : W.frozen? ta = false) :
    (ReflectliteValue.set #[rv 305 ta 406, rv 305 b 150]).run Tryz.prog W = .ok (.tuple #[]) (W.setCell ta (.pointer (some e))) := by
  have hp : (ReflectliteValue.parts (rv 305 ta 406)).run Tryz.prog W = .ok (some (305, ta, 406)) W := parts_at 305 406 (.inr (.inl ⟨rfl, rfl⟩)) ta W
  have hq : (ReflectliteValue.parts (rv 305 b 150)).run Tryz.prog W = .ok (some (305, b, 150)) W := parts_at 305 150 (.inr (.inr ⟨rfl, rfl⟩)) b W
  have hd : (Rtype.directlyAssignable 305 305).run Tryz.prog W = .ok true W := by kernel_rfl
  change (ReflectliteValue.parts (rv 305 ta 406) >>= _).run Tryz.prog W = _
  have hq' : ∀ h1 h2, (ReflectliteValue.parts ((#[rv 305 ta 406, rv 305 b 150] : Array Value).getLit (n := 2) 1 h1 h2)).run Tryz.prog W = .ok (some (305, b, 150)) W := fun _ _ => hq
  simp only [Sem.run_bind, hp, hq', Result.andThen]
  simp [ReflectliteValue.flagAddr, loadVar, isAgg, underlying, Tryz.underlying305, hb, Result.andThen, hd, storeVar, Value.cells, storeCells, Addr.add]
  rw [run_store Tryz.prog W ta _ _ (by rfl)]
  simp [ht, hf]

/-- The worlds of the walk: the target's pointer boxed, two Values laid down, the error's pointer boxed. -/
abbrev asA (w : World) (t : Addr) : World := w.alloc (.cells #[.pointer (some t)] 322)
abbrev asB (w : World) (t : Addr) : World := (asA w t).alloc (.cells #[.pointer (some ⟨7, 322, none⟩), .pointer (some ⟨w.heap.size, 0, none⟩), .int .u64 150] 339)
abbrev asC (w : World) (t : Addr) : World := (asB w t).alloc (.cells #[.pointer (some ⟨7, 322, none⟩), .pointer (some ⟨w.heap.size, 0, none⟩), .int .u64 150] 339)
abbrev asD (w : World) (t e : Addr) : World := (asC w t).alloc (.cells #[.pointer (some e)] 305)
theorem asB_old (w : World) (t x : Addr) (h : x.block < w.heap.size) : (asB w t).cell? x = w.cell? x := by
  rw [World.cell?_alloc_lt _ _ x (by simp; omega), World.cell?_alloc_lt _ _ x h]
theorem asD_old (w : World) (t e x : Addr) (h : x.block < w.heap.size) : (asD w t e).cell? x = w.cell? x := by
  rw [World.cell?_alloc_lt _ _ x (by simp; omega), World.cell?_alloc_lt _ _ x (by simp; omega)]; exact asB_old w t x h
theorem asD_frozen (w : World) (t e x : Addr) (h : x.block < w.heap.size) : (asD w t e).frozen? x = w.frozen? x := by
  rw [World.frozen?_alloc_old _ _ x (by simp; omega), World.frozen?_alloc_old _ _ x (by simp; omega), World.frozen?_alloc_old _ _ x (by simp; omega), World.frozen?_alloc_old _ _ x (by omega)]
theorem asA_box (w : World) (t : Addr) : (asB w t).cell? ⟨w.heap.size, 0, none⟩ = some (.pointer (some t)) := by simp
theorem asC_box (w : World) (t : Addr) : (asC w t).cell? ⟨w.heap.size, 0, none⟩ = some (.pointer (some t)) := by
  rw [World.cell?_alloc_lt _ _ _ (by simp; omega)]; exact asA_box w t
theorem asD_box (w : World) (t e : Addr) : (asD w t e).cell? ⟨w.heap.size + 1 + 1 + 1, 0, none⟩ = some (.pointer (some e)) := by
  rw [World.cell?_alloc_at _ _ _ _ (by simp)]; rfl

set_option maxHeartbeats 4000000 in
theorem as_hit (e t : Addr) (old : Value) (w : World) (hg : w.cell? ⟨0, 0, none⟩ = some (.iface 376 (rt 63))) (ht0 : w.cell? t = some old) (hf0 : w.frozen? t = false) :
    Calls Tryz.prog 189 #[.iface 305 (.pointer (some e)), .iface 322 (.pointer (some t))] w fun ev w' => ev = .returned (.bool true) ∧ w' = (asD w t e).setCell t (.pointer (some e)) := by
  have tl : t.block < w.heap.size := block_lt_of_cell ht0
  have hgB := (asB_old w t ⟨0, 0, none⟩ (block_lt_of_cell hg)).trans hg
  -- the entries' rows
  have x49 := @run_callFunc_extern Tryz.prog 227 _ (fun args => ReflectliteValue.unpack (args.getD 0 (.tuple #[]))) Tryz.func227 (by kernel_rfl) (by kernel_rfl) (by kernel_rfl) (by kernel_rfl)
  have x50 := @run_callFunc_extern Tryz.prog 228 _ (ReflectliteValue.methodAny (ReflectliteValue.valueError "reflectlite.Value.Type" 0) (fun t _ _ _ => ReflectliteType.toType t)) Tryz.func228 (by kernel_rfl) (by kernel_rfl) (by kernel_rfl) (by kernel_rfl)
  have x51 := @run_callFunc_extern Tryz.prog 229 _ (ReflectliteValue.method (ReflectliteValue.valueError "reflectlite.Value.IsNil" 0) ReflectliteValue.isNil) Tryz.func229 (by kernel_rfl) (by kernel_rfl) (by kernel_rfl) (by kernel_rfl)
  have x58 := @run_callFunc_extern Tryz.prog 267 _ ReflectliteType.typeOf Tryz.func267 (by kernel_rfl) (by kernel_rfl) (by kernel_rfl) (by kernel_rfl)
  have x59 := @run_callFunc_extern Tryz.prog 268 _ (ReflectliteValue.method (ReflectliteValue.valueError "reflectlite.Value.Elem" 0) ReflectliteValue.elem) Tryz.func268 (by kernel_rfl) (by kernel_rfl) (by kernel_rfl) (by kernel_rfl)
  have x60 := @run_callFunc_extern Tryz.prog 269 _ ReflectliteValue.set Tryz.func269 (by kernel_rfl) (by kernel_rfl) (by kernel_rfl) (by kernel_rfl)
  have x76 := @run_callFunc_extern Tryz.prog 357 _ (ReflectliteType.abiMethod fun t => do pure (.int .u8 (← Rtype.kind t))) Tryz.func357 (by kernel_rfl) (by kernel_rfl) (by kernel_rfl) (by kernel_rfl)
  have x92 := @run_callFunc_extern Tryz.prog 371 _ (ReflectliteType.relation "AssignableTo" ReflectliteType.assignableTo) Tryz.func371 (by kernel_rfl) (by kernel_rfl) (by kernel_rfl) (by kernel_rfl)
  have x94 := @run_callFunc_extern Tryz.prog 373 _ (ReflectliteType.method ReflectliteType.elem) Tryz.func373 (by kernel_rfl) (by kernel_rfl) (by kernel_rfl) (by kernel_rfl)
  have x95 := @run_callFunc_extern Tryz.prog 374 _ (ReflectliteType.relation "Implements" ReflectliteType.implements_) Tryz.func374 (by kernel_rfl) (by kernel_rfl) (by kernel_rfl) (by kernel_rfl)
  -- what they answer
  have y49 := unpack_at 322 (.inl rfl)
  have z49 := unpack_at 305 (.inr rfl)
  have y76 := kind_at 322 (.inl rfl)
  have z76 := kind_at 305 (.inr rfl)
  have y50 : ∀ (a : Addr) (u : World), (ReflectliteValue.methodAny (ReflectliteValue.valueError "reflectlite.Value.Type" 0) (fun t _ _ _ => ReflectliteType.toType t) #[rv 322 a 150]).run Tryz.prog u = .ok (.iface 376 (rt 322)) u := fun a u => by kernel_rfl
  have y58 : ∀ (v : Value) (u : World), (ReflectliteType.typeOf #[.iface 305 v]).run Tryz.prog u = .ok (.iface 376 (rt 305)) u := fun v u => by kernel_rfl
  have y94 : ∀ u : World, (ReflectliteType.method ReflectliteType.elem #[rt 322]).run Tryz.prog u = .ok (.iface 376 (rt 305)) u := fun u => by kernel_rfl
  have y95 : ∀ u : World, (ReflectliteType.relation "Implements" ReflectliteType.implements_ #[rt 305, .iface 376 (rt 63)]).run Tryz.prog u = .ok (.bool true) u := fun u => by kernel_rfl
  have y92 : ∀ u : World, (ReflectliteType.relation "AssignableTo" ReflectliteType.assignableTo #[rt 305, .iface 376 (rt 305)]).run Tryz.prog u = .ok (.bool true) u := fun u => by kernel_rfl
  have mK : ∀ (h : Value) (u : World), (Go.method 587 376 (.agg #[h]) "Kind").run Tryz.prog u = .ok (357, h) u := fun h u => by kernel_rfl
  have mE : ∀ (h : Value) (u : World), (Go.method 587 376 (.agg #[h]) "Elem").run Tryz.prog u = .ok (373, .agg #[h]) u := fun h u => by kernel_rfl
  have mI : ∀ (h : Value) (u : World), (Go.method 587 376 (.agg #[h]) "Implements").run Tryz.prog u = .ok (374, .agg #[h]) u := fun h u => by kernel_rfl
  have mA : ∀ (h : Value) (u : World), (Go.method 587 376 (.agg #[h]) "AssignableTo").run Tryz.prog u = .ok (371, .agg #[h]) u := fun h u => by kernel_rfl
  have y51 := notNil_at ⟨w.heap.size, 0, none⟩ t (asB w t) (asA_box w t)
  have y59 := elem_at ⟨w.heap.size, 0, none⟩ t (asC w t) (asC_box w t)
  have y60 := set_at t ⟨w.heap.size + 1 + 1 + 1, 0, none⟩ e old (asD w t e) (asD_box w t e) ((asD_old w t e t tl).trans ht0) ((asD_frozen w t e t tl).trans hf0)
  dsimp only [rt, rv, asA, asB, asC, asD] at *
  go_enter Tryz.func189, Tryz.ntmps189
  go_wp2
  refine wp_loop_rounds 1 ?_
  rw [rounds_succ]
  go_wp2
  go_ret
  exact ⟨rfl, rfl⟩
end Go.Proofs.YtadinjaocnlglaaGreatDoor
namespace Go.Proofs.YtadinjaocnlglaaGreatDoor

/-- a field in which every number is its own negative -/
structure Fld (F : Type) where
  add : F → F → F
  mul : F → F → F
  zero : F
  one : F
  inv : F → F
  add_comm : ∀ a b, add a b = add b a
  add_assoc : ∀ a b c, add (add a b) c = add a (add b c)
  zero_add : ∀ a, add zero a = a
  add_self : ∀ a, add a a = zero
  mul_comm : ∀ a b, mul a b = mul b a
  mul_assoc : ∀ a b c, mul (mul a b) c = mul a (mul b c)
  one_mul : ∀ a, mul one a = a
  add_mul : ∀ a b c, mul (add a b) c = add (mul a c) (mul b c)
  mul_inv : ∀ a, a ≠ zero → mul a (inv a) = one
  one_ne : one ≠ zero

namespace Fld
variable {F : Type} (K : Fld F)

theorem add_zero (a : F) : K.add a K.zero = a := by rw [K.add_comm, K.zero_add]
theorem mul_one (a : F) : K.mul a K.one = a := by rw [K.mul_comm, K.one_mul]
theorem mul_add (a b c : F) : K.mul a (K.add b c) = K.add (K.mul a b) (K.mul a c) := by
  rw [K.mul_comm, K.add_mul, K.mul_comm b a, K.mul_comm c a]
theorem zero_mul (a : F) : K.mul K.zero a = K.zero := by
  have h := K.add_mul a a a
  rw [K.add_self, K.add_self] at h
  exact h
theorem mul_zero (a : F) : K.mul a K.zero = K.zero := by rw [K.mul_comm, K.zero_mul]
theorem add_cancel (a b : F) : K.add a (K.add a b) = b := by rw [← K.add_assoc, K.add_self, K.zero_add]
theorem eq_of_add (a b : F) (h : K.add a b = K.zero) : a = b := by
  have e := K.add_cancel a b
  rw [h, K.add_zero] at e
  exact e
theorem add_swap (a b c d : F) : K.add (K.add a b) (K.add c d) = K.add (K.add a c) (K.add b d) := by
  rw [K.add_assoc, K.add_assoc, ← K.add_assoc b c d, K.add_comm b c, K.add_assoc c b d]
theorem mul_swap (a b c : F) : K.mul a (K.mul b c) = K.mul b (K.mul a c) := by
  rw [← K.mul_assoc, K.mul_comm a b, K.mul_assoc]
theorem no_zero (a b : F) (ha : a ≠ K.zero) (h : K.mul a b = K.zero) : b = K.zero := by
  have e : K.mul (K.inv a) (K.mul a b) = b := by rw [← K.mul_assoc, K.mul_comm (K.inv a) a, K.mul_inv a ha, K.one_mul]
  rw [h, K.mul_zero] at e
  exact e.symm
theorem mul_ne (a b : F) (ha : a ≠ K.zero) (hb : b ≠ K.zero) : K.mul a b ≠ K.zero := fun h => hb (K.no_zero a b ha h)

/-- polynomials of degree below n, as functions -/
def Poly : Nat → (F → F) → Prop
  | 0, f => ∀ x, f x = K.zero
  | n + 1, f => ∀ a, ∃ g, Poly n g ∧ ∀ x, f x = K.add (f a) (K.mul (K.add x a) (g x))

theorem Poly.congr : ∀ {n : Nat} {f h : F → F}, K.Poly n f → (∀ x, h x = f x) → K.Poly n h
  | 0, _, _, hf, e => fun x => (e x).trans (hf x)
  | _ + 1, _, _, hf, e => fun a => by
    obtain ⟨g, hg, hx⟩ := hf a
    exact ⟨g, hg, fun x => by rw [e x, e a]; exact hx x⟩
theorem Poly.zero : ∀ n : Nat, K.Poly n (fun _ => K.zero)
  | 0 => fun _ => rfl
  | n + 1 => fun _ => ⟨fun _ => K.zero, Poly.zero n, fun _ => by rw [K.mul_zero, K.add_zero]⟩
theorem Poly.up : ∀ {n : Nat} {f : F → F}, K.Poly n f → K.Poly (n + 1) f
  | 0, f, hf => fun a => ⟨fun _ => K.zero, Poly.zero K 0, fun x => by rw [K.mul_zero, K.add_zero, hf x, hf a]⟩
  | n + 1, f, hf => fun a => by
    obtain ⟨g, hg, hx⟩ := hf a
    exact ⟨g, Poly.up hg, hx⟩
theorem Poly.const (c : F) : K.Poly 1 (fun _ => c) := fun _ => ⟨fun _ => K.zero, Poly.zero K 0, fun _ => by rw [K.mul_zero, K.add_zero]⟩
theorem Poly.add : ∀ {n : Nat} {f h : F → F}, K.Poly n f → K.Poly n h → K.Poly n (fun x => K.add (f x) (h x))
  | 0, _, _, hf, hh => fun x => by show K.add _ _ = _; rw [hf x, hh x, K.add_self]
  | n + 1, f, h, hf, hh => fun a => by
    obtain ⟨g1, p1, e1⟩ := hf a
    obtain ⟨g2, p2, e2⟩ := hh a
    refine ⟨fun x => K.add (g1 x) (g2 x), Poly.add p1 p2, fun x => ?_⟩
    show K.add (f x) (h x) = K.add (K.add (f a) (h a)) (K.mul (K.add x a) (K.add (g1 x) (g2 x)))
    rw [e1 x, e2 x, K.mul_add, K.add_swap]
theorem Poly.smul (c : F) : ∀ {n : Nat} {f : F → F}, K.Poly n f → K.Poly n (fun x => K.mul c (f x))
  | 0, _, hf => fun x => by show K.mul c _ = _; rw [hf x, K.mul_zero]
  | n + 1, f, hf => fun a => by
    obtain ⟨g, p, e⟩ := hf a
    refine ⟨fun x => K.mul c (g x), Poly.smul c p, fun x => ?_⟩
    show K.mul c (f x) = K.add (K.mul c (f a)) (K.mul (K.add x a) (K.mul c (g x)))
    rw [e x, K.mul_add, K.mul_swap]
/-- one factor more -/
theorem Poly.lin (c : F) : ∀ {n : Nat} {f : F → F}, K.Poly n f → K.Poly (n + 1) (fun x => K.mul (f x) (K.add x c))
  | 0, f, hf => Poly.congr K (Poly.zero K 1) (fun x => by show K.mul (f x) _ = _; rw [hf x, K.zero_mul])
  | n + 1, f, hf => fun a => by
    obtain ⟨g, p, e⟩ := hf a
    refine ⟨fun x => K.add (f x) (K.mul (K.add a c) (g x)), Poly.add K hf (Poly.up K (Poly.smul K _ p)), fun x => ?_⟩
    show K.mul (f x) (K.add x c) = K.add (K.mul (f a) (K.add a c)) (K.mul (K.add x a) (K.add (f x) (K.mul (K.add a c) (g x))))
    have s : K.add x c = K.add (K.add x a) (K.add a c) := by rw [K.add_assoc, K.add_cancel]
    have t : K.mul (f x) (K.add a c) = K.add (K.mul (f a) (K.add a c)) (K.mul (K.add x a) (K.mul (K.add a c) (g x))) := by
      rw [e x, K.add_mul, K.mul_assoc, K.mul_comm (g x)]
    rw [s, K.mul_add (f x) (K.add x a) (K.add a c), t, K.mul_add (K.add x a) (f x) _, K.mul_comm (f x) (K.add x a)]
    rw [← K.add_assoc, K.add_comm (K.mul (K.add x a) (f x)), K.add_assoc]
/-- as many zeros as its degree allows: it is zero -/
theorem Poly.roots : ∀ (n : Nat) (f : F → F) (l : List F), K.Poly n f → l.length = n → l.Nodup → (∀ r ∈ l, f r = K.zero) → ∀ x, f x = K.zero
  | 0, _, _, hf, _, _, _ => hf
  | n + 1, f, a :: l, hf, hl, hd, hr => fun x => by
    obtain ⟨g, p, e⟩ := hf a
    have ha : f a = K.zero := hr a (by simp)
    have hd' := List.nodup_cons.1 hd
    have hg := Poly.roots n g l p (by simpa using hl) hd'.2 (fun r hm => by
      have h1 := e r
      rw [hr r (by simp [hm]), ha, K.zero_add] at h1
      refine K.no_zero (K.add r a) (g r) (fun h0 => ?_) h1.symm
      have := K.eq_of_add r a h0
      subst this
      exact hd'.1 hm) x
    rw [e x, ha, hg, K.mul_zero, K.add_zero]
theorem Poly.unique {n : Nat} {f h : F → F} (l : List F) (hf : K.Poly n f) (hh : K.Poly n h) (hl : l.length = n) (hd : l.Nodup) (e : ∀ r ∈ l, f r = h r) (x : F) : f x = h x :=
  K.eq_of_add _ _ (Poly.roots K n (fun x => K.add (f x) (h x)) l (Poly.add K hf hh) hl hd (fun r hr => by rw [e r hr, K.add_self]) x)

/-- a product, from the left -/
def prod (a : F) : List F → F
  | [] => a
  | x :: l => prod (K.mul a x) l
theorem prod_mul (a b : F) : ∀ l : List F, K.prod (K.mul a b) l = K.mul a (K.prod b l)
  | [] => rfl
  | x :: l => by rw [prod, prod, K.mul_assoc, prod_mul a (K.mul b x) l]
theorem prod_append (a : F) : ∀ (l m : List F), K.prod a (l ++ m) = K.prod (K.prod a l) m
  | [], _ => rfl
  | x :: l, m => by rw [List.cons_append, prod, prod, prod_append]
theorem prod_one (a : F) (l : List F) : K.prod a l = K.mul a (K.prod K.one l) := by
  have := K.prod_mul a K.one l
  rwa [K.mul_one] at this
theorem prod_reverse (a : F) : ∀ l : List F, K.prod a l.reverse = K.prod a l
  | [] => rfl
  | x :: l => by
    rw [List.reverse_cons, prod_append, prod_reverse a l, prod, prod, prod, K.prod_one a l, K.prod_one (K.mul a x) l]
    rw [K.mul_assoc, K.mul_assoc, K.mul_comm (K.prod K.one l) x]
theorem prod_zero (a : F) : ∀ l : List F, K.zero ∈ l → K.prod a l = K.zero
  | x :: l, h => by
    rcases List.mem_cons.1 h with rfl | h
    · rw [prod, K.mul_zero, K.prod_one, K.zero_mul]
    · rw [prod]; exact prod_zero _ l h
theorem prod_ne (a : F) (ha : a ≠ K.zero) : ∀ l : List F, (∀ x ∈ l, x ≠ K.zero) → K.prod a l ≠ K.zero
  | [], _ => ha
  | x :: l, h => by
    rw [prod]
    exact prod_ne _ (K.mul_ne a x ha (h x (by simp))) l (fun y hy => h y (by simp [hy]))
theorem Poly.prod : ∀ (l : List F) (n : Nat) (f : F → F), K.Poly n f → K.Poly (n + l.length) (fun x => K.prod (f x) (l.map fun p => K.add x p))
  | [], _, _, hf => hf
  | p :: l, n, f, hf => by
    have := Poly.prod l (n + 1) _ (Poly.lin K p hf)
    have e : n + (p :: l).length = n + 1 + l.length := by simp; omega
    rw [e]
    exact this
/-- a sum, from the left -/
def sum (a : F) : List F → F
  | [] => a
  | x :: l => sum (K.add a x) l
theorem sum_add (a b : F) : ∀ l : List F, K.sum (K.add a b) l = K.add a (K.sum b l)
  | [] => rfl
  | x :: l => by rw [sum, sum, K.add_assoc, sum_add a (K.add b x) l]
theorem sum_zero : ∀ l : List F, (∀ x ∈ l, x = K.zero) → K.sum K.zero l = K.zero
  | [], _ => rfl
  | x :: l, h => by rw [sum, h x (by simp), K.add_self]; exact sum_zero l (fun y hy => h y (by simp [hy]))
theorem sum_append (a : F) : ∀ (l m : List F), K.sum a (l ++ m) = K.sum (K.sum a l) m
  | [], _ => rfl
  | x :: l, m => by rw [List.cons_append, sum, sum, sum_append]
theorem sum_start (a : F) (l : List F) : K.sum a l = K.add a (K.sum K.zero l) := by
  have := K.sum_add a K.zero l
  rwa [K.add_zero] at this
theorem Poly.sum {n : Nat} {ι : Type} (w : ι → F → F) : ∀ (l : List ι) (f : F → F), K.Poly n f → (∀ i ∈ l, K.Poly n (w i)) → K.Poly n (fun x => K.sum (f x) (l.map fun i => w i x))
  | [], _, hf, _ => hf
  | i :: l, f, hf, h => Poly.sum w l (fun x => K.add (f x) (w i x)) (Poly.add K hf (h i (by simp))) (fun j hj => h j (by simp [hj]))

end Fld
end Go.Proofs.YtadinjaocnlglaaGreatDoor
