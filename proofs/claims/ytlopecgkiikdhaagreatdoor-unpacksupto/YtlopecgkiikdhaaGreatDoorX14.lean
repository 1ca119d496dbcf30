import Derived.Test.YtlopecgkiikdhaaGreatDoorProg
import Derived.WalkKit
import Derived.LaidEql
import Derived.Stop.Asserts
import Derived.RowKitTokens
namespace Go.Proofs.YtlopecgkiikdhaaGreatDoor
open Go.RowKit Go.Extern.Stop Go.Stop Go.Extern
theorem zHA (t:Value)(w:World):
 Calls Tryz.prog 80 #[.nilIface,t] w fun e w'=>e=.returned (.bool false)∧w'=w:=by
 go_enter Tryz.func80,Tryz.ntmps80
 go_wp2
 go_ret
 exact⟨rfl,rfl⟩
abbrev rt (ty:Nat):Value:=.agg #[.pointer (some ⟨7,ty,none⟩)]
abbrev rv (ty:Nat)(a:Addr)(fl:Int):Value:=.agg #[.pointer (some ⟨7,ty,none⟩),.pointer (some a),.int .u64 fl]
abbrev XR (f:Nat)(e:Array Value→Sem Value):Prop:=∀(args:Array Value) (w:World),(callFunc f args).run Tryz.prog w=((e args).run Tryz.prog w).andThen fun v w'=>.ok (.value v) w'
theorem zOV:XR 107 (fun args=>ReflectliteValue.unpack (args.getD 0 (.tuple #[]))):= @run_callFunc_extern Tryz.prog 107 _ _ Tryz.func107 (by kernel_rfl) (by kernel_rfl) (by kernel_rfl) (by kernel_rfl)
theorem zOW:XR 108 (ReflectliteValue.methodAny (ReflectliteValue.valueError "reflectlite.Value.Type" 0) (fun t _ _ _=>ReflectliteType.toType t)):= @run_callFunc_extern Tryz.prog 108 _ _ Tryz.func108 (by kernel_rfl) (by kernel_rfl) (by kernel_rfl) (by kernel_rfl)
theorem zOX:XR 109 (ReflectliteValue.method (ReflectliteValue.valueError "reflectlite.Value.IsNil" 0) ReflectliteValue.isNil):= @run_callFunc_extern Tryz.prog 109 _ _ Tryz.func109 (by kernel_rfl) (by kernel_rfl) (by kernel_rfl) (by kernel_rfl)
theorem zOY:XR 148 ReflectliteType.typeOf:= @run_callFunc_extern Tryz.prog 148 _ _ Tryz.func148 (by kernel_rfl) (by kernel_rfl) (by kernel_rfl) (by kernel_rfl)
theorem zPn:XR 149 (ReflectliteValue.method (ReflectliteValue.valueError "reflectlite.Value.Elem" 0) ReflectliteValue.elem):= @run_callFunc_extern Tryz.prog 149 _ _ Tryz.func149 (by kernel_rfl) (by kernel_rfl) (by kernel_rfl) (by kernel_rfl)
theorem zPo:XR 150 ReflectliteValue.set:= @run_callFunc_extern Tryz.prog 150 _ _ Tryz.func150 (by kernel_rfl) (by kernel_rfl) (by kernel_rfl) (by kernel_rfl)
theorem zOZ:XR 245 (ReflectliteType.abiMethod fun t=>do pure (.int .u8 (←Rtype.kind t))):= @run_callFunc_extern Tryz.prog 245 _ _ Tryz.func245 (by kernel_rfl) (by kernel_rfl) (by kernel_rfl) (by kernel_rfl)
theorem zOa:XR 256 (ReflectliteType.relation "AssignableTo" ReflectliteType.assignableTo):= @run_callFunc_extern Tryz.prog 256 _ _ Tryz.func256 (by kernel_rfl) (by kernel_rfl) (by kernel_rfl) (by kernel_rfl)
theorem zOb:XR 258 (ReflectliteType.method ReflectliteType.elem):= @run_callFunc_extern Tryz.prog 258 _ _ Tryz.func258 (by kernel_rfl) (by kernel_rfl) (by kernel_rfl) (by kernel_rfl)
theorem zOc:XR 259 (ReflectliteType.relation "Implements" ReflectliteType.implements_):= @run_callFunc_extern Tryz.prog 259 _ _ Tryz.func259 (by kernel_rfl) (by kernel_rfl) (by kernel_rfl) (by kernel_rfl)
theorem zOg (h:Value)(u:World):(Go.method 453 238 (.agg #[h]) "Kind").run Tryz.prog u=.ok (245,h) u:=by kernel_rfl
theorem zOe (h:Value)(u:World):(Go.method 453 238 (.agg #[h]) "Elem").run Tryz.prog u=.ok (258,.agg #[h]) u:=by kernel_rfl
theorem zOf (h:Value)(u:World):(Go.method 453 238 (.agg #[h]) "Implements").run Tryz.prog u=.ok (259,.agg #[h]) u:=by kernel_rfl
theorem zOd (h:Value)(u:World):(Go.method 453 238 (.agg #[h]) "AssignableTo").run Tryz.prog u=.ok (256,.agg #[h]) u:=by kernel_rfl
theorem zCe (j:Nat)(h:j=165∨j=150)(t:Addr)(w:World):
 (ReflectliteValue.unpack (.iface j (.pointer (some t)))).run Tryz.prog w=.ok (rv j ⟨w.heap.size,0,none⟩ 150) (w.alloc (.cells #[.pointer (some t)] j)):=by
 rcases h with rfl|rfl<;>kernel_rfl
theorem zDE (j:Nat)(h:j=165∨j=150)(w:World):
 ((ReflectliteType.abiMethod fun t=>(fun a:Nat=>Value.int IntKind.u8 (a:Int))<$>Rtype.kind t) #[.pointer (some ⟨7,j,none⟩)]).run Tryz.prog w=.ok (.int .u8 22) w:=by
 rcases h with rfl|rfl<;>kernel_rfl
theorem zB0 (u:Nat)(j:Nat)(h:(u=165∧j=150)∨(u=150∧j=406)∨(u=150∧j=150))(a:Addr)(w:World):
 (ReflectliteValue.parts (rv u a j)).run Tryz.prog w=.ok (some (u,a,j)) w:=by
 rcases h with ⟨rfl,rfl⟩|⟨rfl,rfl⟩|⟨rfl,rfl⟩<;>kernel_rfl
theorem zEC (a p:Addr)(W:World)(j:W.cell? a=some (.pointer (some p))):
 (ReflectliteValue.method (ReflectliteValue.valueError "reflectlite.Value.IsNil" 0) ReflectliteValue.isNil #[rv 165 a 150]).run Tryz.prog W=.ok (.bool false) W:=by
 have hp:(ReflectliteValue.parts (rv 165 a 150)).run Tryz.prog W=.ok (some (165,a,150)) W:=zB0 165 150 (.inl ⟨rfl,rfl⟩) a W
 change (ReflectliteValue.parts (rv 165 a 150)>>=_).run Tryz.prog W=_
 simp only[Sem.run_bind,hp,Result.andThen]
 simp[ReflectliteValue.isNil,loadVar,isAgg,underlying,Tryz.underlying165,j,Result.andThen]
theorem zLY (a p:Addr)(W:World)(A:W.cell? a=some (.pointer (some p))):
 (ReflectliteValue.method (ReflectliteValue.valueError "reflectlite.Value.Elem" 0) ReflectliteValue.elem #[rv 165 a 150]).run Tryz.prog W=.ok (rv 150 p 406) W:=by
 have hp:(ReflectliteValue.parts (rv 165 a 150)).run Tryz.prog W=.ok (some (165,a,150)) W:=zB0 165 150 (.inl ⟨rfl,rfl⟩) a W
 have j:(Rtype.elem? 165).run Tryz.prog W=.ok (some 150) W:=by kernel_rfl
 have u:(ReflectliteValue.mk 150 p ReflectliteValue.flagAddr).run Tryz.prog W=.ok (rv 150 p 406) W:=by kernel_rfl
 change (ReflectliteValue.parts (rv 165 a 150)>>=_).run Tryz.prog W=_
 simp only[Sem.run_bind,hp,Result.andThen]
 simp[ReflectliteValue.elem,loadVar,isAgg,underlying,Tryz.underlying165,A,Result.andThen,j,u]
theorem zOD (j b e:Addr)(old:Value)(W:World)(hb:W.cell? b=some (.pointer (some e)))(G:W.cell? j=some old)(hf:W.frozen? j=false):
 (ReflectliteValue.set #[rv 150 j 406,rv 150 b 150]).run Tryz.prog W=.ok (.tuple #[]) (W.setCell j (.pointer (some e))):=by
 have hp:(ReflectliteValue.parts (rv 150 j 406)).run Tryz.prog W=.ok (some (150,j,406)) W:=zB0 150 406 (.inr (.inl ⟨rfl,rfl⟩)) j W
 have F:(ReflectliteValue.parts (rv 150 b 150)).run Tryz.prog W=.ok (some (150,b,150)) W:=zB0 150 150 (.inr (.inr ⟨rfl,rfl⟩)) b W
 have hd:(Rtype.directlyAssignable 150 150).run Tryz.prog W=.ok true W:=by kernel_rfl
 change (ReflectliteValue.parts (rv 150 j 406)>>=_).run Tryz.prog W=_
 have u:∀A D,(ReflectliteValue.parts ((#[rv 150 j 406,rv 150 b 150]:Array Value).getLit (n:=2) 1 A D)).run Tryz.prog W=.ok (some (150,b,150)) W:=fun _ _=>F
 simp only[Sem.run_bind,hp,u,Result.andThen]
 simp[ReflectliteValue.flagAddr,loadVar,isAgg,underlying,Tryz.underlying150,hb,Result.andThen,hd,storeVar,Value.cells,storeCells,Addr.add]
 rw[run_store Tryz.prog W j _ _ (by rfl)]
 simp[G,hf]
abbrev asA (w:World)(t:Addr):World:=w.alloc (.cells #[.pointer (some t)] 165)
abbrev asB (w:World)(t:Addr):World:=(asA w t).alloc (.cells #[.pointer (some ⟨7,165,none⟩),.pointer (some ⟨w.heap.size,0,none⟩),.int .u64 150] 196)
abbrev asC (w:World)(t:Addr):World:=(asB w t).alloc (.cells #[.pointer (some ⟨7,165,none⟩),.pointer (some ⟨w.heap.size,0,none⟩),.int .u64 150] 196)
abbrev asD (w:World)(t e:Addr):World:=(asC w t).alloc (.cells #[.pointer (some e)] 150)
theorem zEf (w:World)(t x:Addr)(h:x.block<w.heap.size):(asB w t).cell? x=w.cell? x:=by
 rw[World.cell?_alloc_lt _ _ x (by simp;omega),World.cell?_alloc_lt _ _ x h]
theorem zLK (w:World)(t e x:Addr)(h:x.block<w.heap.size):(asD w t e).cell? x=w.cell? x:=by
 rw[World.cell?_alloc_lt _ _ x (by simp;omega),World.cell?_alloc_lt _ _ x (by simp;omega)];exact zEf w t x h
theorem zGL (w:World)(t e x:Addr)(h:x.block<w.heap.size):(asD w t e).frozen? x=w.frozen? x:=by
 rw[World.frozen?_alloc_old _ _ x (by simp;omega),World.frozen?_alloc_old _ _ x (by simp;omega),World.frozen?_alloc_old _ _ x (by simp;omega),World.frozen?_alloc_old _ _ x (by omega)]
theorem zEe (w:World)(t:Addr):(asB w t).cell? ⟨w.heap.size,0,none⟩=some (.pointer (some t)):=by simp
theorem zLI (w:World)(t:Addr):(asC w t).cell? ⟨w.heap.size,0,none⟩=some (.pointer (some t)):=by
 rw[World.cell?_alloc_lt _ _ _ (by simp;omega)];exact zEe w t
theorem zLJ (w:World)(t e:Addr):(asD w t e).cell? ⟨w.heap.size+1+1+1,0,none⟩=some (.pointer (some e)):=by
 rw[World.cell?_alloc_at _ _ _ _ (by simp)];rfl
set_option maxHeartbeats 4000000 in
theorem zKS (e t:Addr)(old:Value)(w:World)(D:w.cell? ⟨1,0,none⟩=some (.iface 238 (rt 41)))(j:w.cell? t=some old)(A:w.frozen? t=false):
 Calls Tryz.prog 80 #[.iface 150 (.pointer (some e)),.iface 165 (.pointer (some t))] w fun F w'=>F=.returned (.bool true)∧w'=(asD w t e).setCell t (.pointer (some e)):=by
 have tl:t.block<w.heap.size:=block_lt_of_cell j
 have G:=(zEf w t ⟨1,0,none⟩ (block_lt_of_cell D)).trans D
 have J:=zOV
 have N:=zOW
 have Q:=zOX
 have R:=zOY
 have U:=zPn
 have W:=zPo
 have X:=zOZ
 have Z:=zOa
 have a1:=zOb
 have a2:=zOc
 have a4:=zCe 165 (.inl rfl)
 have aE:=zCe 150 (.inr rfl)
 have aA:=zDE 165 (.inl rfl)
 have aF:=zDE 150 (.inr rfl)
 have a5:∀(a:Addr) (u:World),(ReflectliteValue.methodAny (ReflectliteValue.valueError "reflectlite.Value.Type" 0) (fun t _ _ _=>ReflectliteType.toType t) #[rv 165 a 150]).run Tryz.prog u=.ok (.iface 238 (rt 165)) u:=fun a u=>by kernel_rfl
 have a7:∀(v:Value) (u:World),(ReflectliteType.typeOf #[.iface 150 v]).run Tryz.prog u=.ok (.iface 238 (rt 150)) u:=fun v u=>by kernel_rfl
 have aC:∀u:World,(ReflectliteType.method ReflectliteType.elem #[rt 165]).run Tryz.prog u=.ok (.iface 238 (rt 150)) u:=fun u=>by kernel_rfl
 have aD:∀u:World,(ReflectliteType.relation "Implements" ReflectliteType.implements_ #[rt 150,.iface 238 (rt 41)]).run Tryz.prog u=.ok (.bool true) u:=fun u=>by kernel_rfl
 have aB:∀u:World,(ReflectliteType.relation "AssignableTo" ReflectliteType.assignableTo #[rt 150,.iface 238 (rt 150)]).run Tryz.prog u=.ok (.bool true) u:=fun u=>by kernel_rfl
 have mK:=zOg
 have mE:=zOe
 have mI:=zOf
 have mA:=zOd
 have a6:=zEC ⟨w.heap.size,0,none⟩ t (asB w t) (zEe w t)
 have a8:=zLY ⟨w.heap.size,0,none⟩ t (asC w t) (zLI w t)
 have a9:=zOD t ⟨w.heap.size+1+1+1,0,none⟩ e old (asD w t e) (zLJ w t e) ((zLK w t e t tl).trans j) ((zGL w t e t tl).trans A)
 dsimp only[XR,rt,rv,asA,asB,asC,asD]at*
 go_enter Tryz.func80,Tryz.ntmps80
 go_wp2
 refine wp_loop_rounds 1 ?_
 rw[rounds_succ]
 go_wp2
 go_ret
 exact⟨rfl,rfl⟩
end Go.Proofs.YtlopecgkiikdhaaGreatDoor
