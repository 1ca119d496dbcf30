import Derived.Test.YtlopecgkiikdhaaGreatDoorCards
import Derived.Test.YtlopecgkiikdhaaGreatDoorTie
import Derived.Test.YtlopecgkiikdhaaGreatDoorX48
import Derived.Test.YtlopecgkiikdhaaGreatDoorUf
import Derived.WalkKit
import Derived.ProofKit
import Derived.OpenShut
import Derived.ShutString
import Derived.ChangeOld
import Derived.ChangeSlices
import Derived.Below
import Derived.SliceStrings
import Derived.SizedLaws
import Derived.LaidHandle
import Derived.Deep.DeepHandedRow
import Derived.Deep.Slices
import Derived.Deep.Strs
import Derived.Lib.LaidTab
import Derived.Lib.SmallJoins
import Derived.Stop.LaidErr
import Derived.ChangeMaps5
namespace Go.Proofs.YtlopecgkiikdhaaGreatDoor
open Go.ChangeShapes Go.WideShapes Go.ChangeAt Go.RowKit
set_option maxRecDepth 100000
def FT:List Int:=[1779033703,3144134277,1013904242,2773480762,1359893119,2600822924,528734635,1541459225]
theorem zLl:∀j,j<8→FT.getD j 0=zEp j:=by
 intro j u
 match j,u with
 |0,_=>rfl
 |1,_=>rfl
 |2,_=>rfl
 |3,_=>rfl
 |4,_=>rfl
 |5,_=>rfl
 |6,_=>rfl
 |7,_=>rfl
theorem own:ownKnob Tryz.prog.godebug=none:=by kernel_rfl
theorem zEu:laidOutB Tryz.prog=true:=by kernel_rfl
theorem zPw:Tryz.prog.globalNamed "errors.errorType" =some 1:=by kernel_rfl
theorem zPf:Tryz.prog.globalNamed "vault/digest.roundWords" =some 3:=by kernel_rfl
theorem zPg:Tryz.prog.globalNamed "vault/vaultref.roundNumbers" =some 2:=by kernel_rfl
theorem zKf:Tryz.prog.globalNamed "vault/vaultref.firstNumbers" =some 0:=by kernel_rfl
theorem zP5:(Tryz.prog.globals[3]?).map (·.type)=some 232:=by kernel_rfl
theorem zP6:(Tryz.prog.globals[2]?).map (·.type)=some 232:=by kernel_rfl
theorem zOI:(Tryz.prog.globals[0]?).map (·.type)=some 190:=by kernel_rfl
theorem zFQ:Tryz.prog.cellsOf 232=64:=by kernel_rfl
theorem zJL:Tryz.prog.cellsOf 190=8:=by kernel_rfl
theorem zC7:Tryz.prog.cellsOf 64=1:=by kernel_rfl
theorem zM9:Tryz.prog.cellsOf 3=1:=by kernel_rfl
theorem zNB:Tryz.prog.cellsOf 9=1:=by kernel_rfl
theorem zOq:Tryz.prog.cellsOf 81=4:=by kernel_rfl
theorem zPL:(Tryz.prog.cutTypes.find? (·.1 == "internal/reflectlite.rtype")).map (·.2)=some 238:=by kernel_rfl
theorem zIo:Tryz.prog.types.size=353:=by kernel_rfl
theorem zNv:((List.range 353).filter fun t=>Tryz.prog.rowNamed t [101,114,114,111,114])=[41]:=by kernel_rfl
theorem zJQ {W:World}(j:W.ShapedOpen Tryz.prog):8≤W.heap.size:=by
 obtain⟨o,u,h,_⟩:=j.2 7 (of_decide_eq_true (by kernel_rfl)) (of_decide_eq_true (by kernel_rfl))
 exact (Array.getElem?_eq_some_iff.1 h).1
theorem zEn {W:World}(h:laidMetH Tryz.prog Rows.unpacksUptoRow.laid W)(h8:8≤W.heap.size):Glb kt W:=by
 have D:laidMet Tryz.prog [("unicode/utf8.acceptRanges",Rows.laid_unicode_utf8_acceptRanges),("vault/digest.roundWords",Lib.tabData .u32 KT),("vault/vaultref.roundNumbers",Lib.tabData .u32 KT),("vault/vaultref.firstNumbers",Lib.tabData .u32 FT),("unicode/utf8.first",Rows.laid_unicode_utf8_first)] W∧handlesMet Tryz.prog [("errors.errorType",Rows.laid_errors_errorType)] W:=h
 have N:Lib.TabIs Tryz.prog W "vault/digest.roundWords" .u32 KT:=Lib.tabIs_of_head zPf zP5 Tryz.underlying232 Tryz.underlying64 zC7 zFQ D.1.tail
 have Q:Lib.TabIs Tryz.prog W "vault/vaultref.roundNumbers" .u32 KT:=Lib.tabIs_of_head zPg zP6 Tryz.underlying232 Tryz.underlying64 zC7 zFQ D.1.tail.tail
 have a3:Lib.TabIs Tryz.prog W "vault/vaultref.firstNumbers" .u32 FT:=Lib.tabIs_of_head zKf zOI Tryz.underlying190 Tryz.underlying64 zC7 zJL D.1.tail.tail.tail
 refine⟨⟨fun k hk=>N.cell zPf k hk,by omega⟩,⟨fun k hk=>Q.cell zPg k hk,fun j G=>by rw[←zLl j G];exact a3.cell zKf j G,by omega⟩,⟨?_⟩⟩
 obtain⟨A,u,ty,R,U,X,Z,F⟩:=D.2 _ (List.mem_singleton.2 rfl)
 have en:A=[101,114,114,111,114]:=(Option.some.inj R).symm
 subst en
 obtain rfl:=Option.some.inj (zPL.symm.trans U)
 have J:ty∈(List.range 353).filter fun t=>Tryz.prog.rowNamed t [101,114,114,111,114]:=List.mem_filter.2 ⟨List.mem_range.2 (by rw[←zIo];exact X),Z⟩
 rw[zNv]at J
 obtain rfl:=List.mem_singleton.1 J
 have hh:typeHandle Tryz.prog 41=.pointer (some ⟨7,41,none⟩):=by kernel_rfl
 rw[hh]at F
 simpa using World.var?_cell zPw F 0
theorem zPa {n:Int}(h:(Lit.int .i64 n).wf=true): -9223372036854775808≤n∧n≤9223372036854775807:=by
 have:IntKind.i64.min≤n∧n≤IntKind.i64.max:=by simpa[Lit.wf] using h
 exact this
theorem zFO {H:Type}{d:DataW H}:∀{l:List (DataW H)},d∈l→Rows.uptoBulk d≤Rows.uptoBulkAll l
 |[],h=>by cases h
 |x::r,h=>by
  rw[Rows.uptoBulkAll]
  rcases List.mem_cons.1 h with rfl|h
  ·omega
  ·have:=zFO h;omega
theorem zJJ {H:Type}(d:DataW H):1≤Rows.uptoBulk d:=by
 cases d with
 |lit l=>cases l<;>simp[Rows.uptoBulk]
 |_=>simp[Rows.uptoBulk]
theorem zC6 {H:Type}:∀l:List (DataW H),l.length≤Rows.uptoBulkAll l
 |[]=>by simp
 |x::r=>by
  have:=zC6 r
  have:=zJJ x
  rw[Rows.uptoBulkAll,List.length_cons];omega
theorem zC2 {H:Type}{enc:TypeId×Value→H}{W:World}{a:Option Addr}{len F:Nat}{d:DataW H}{p:List MemPlace}(h:DataW.Trod enc Tryz.prog W 0 (fun _=>true) true 22 (.slice a len F) d p)(hb:Rows.uptoBulk d≤1048576):len≤1048576∧∃L:Nat→ByteArray,RawT W a len F L∧∀i,i<len→(L i).size≤140737488351232:=by
 obtain⟨Q,hf⟩:=h
 rcases open_strings Tryz.underlying22 Tryz.underlying9 zNB hf with ⟨A,_⟩|⟨x,l,c,j,A,_,hl,X,hz,hx,u,Z⟩
 ·simp[Value.cells]at A
  obtain⟨rfl,rfl,rfl⟩:=A
  exact⟨by omega,fun _=>⟨#[]⟩,.inl ⟨rfl,rfl,rfl⟩,fun i hi=>by omega⟩
 ·simp[Value.cells]at A
  obtain⟨rfl,rfl,rfl⟩:=A
  have U:len≤j.length:=by rw[hz];simp;omega
  obtain⟨rfl,_⟩:=Prod.mk.inj hx
  simp only[Rows.uptoBulk]at hb
  have h1:len≤Rows.uptoBulkAll (strs (H:=H) (j.take len)):=by
   have R:=zC6 (strs (H:=H) (j.take len))
   have h3:(strs (H:=H) (j.take len)).length=len:=by simp[strs];omega
   omega
  refine⟨by omega,fun i=>j.getD i ByteArray.empty,.inr ⟨x,rfl,fun i hi=> ?_⟩,fun i hi=> ?_⟩
  ·obtain⟨b,off,J⟩:=x
   have N:=u i (by omega)
   have D:J=none:=by simpa[Addr.add] using World.cell?_spot (u 0 (by omega))
   subst D
   rw[Go.WideShapes.add_plain]at N
   exact⟨b,off,rfl,block_lt_of_cell N,N⟩
  ·have G:i<j.length:=by omega
   have X:(.lit (.string (j.getD i ByteArray.empty).data.toList):DataW H)∈strs (j.take len):=by
    rw[List.getD_eq_getElem?_getD,List.getElem?_eq_getElem G,Option.getD_some]
    refine List.mem_map.2 ⟨j[i],?_,rfl⟩
    rw[List.mem_iff_getElem?]
    exact⟨i,by rw[List.getElem?_take,if_pos hi,List.getElem?_eq_getElem G]⟩
   have R:=zFO X
   simp only[Rows.uptoBulk]at R
   have e:(j.getD i ByteArray.empty).data.toList.length=(j.getD i ByteArray.empty).size:=by simp
   show (j.getD i ByteArray.empty).size≤_
   omega
theorem zH3 {H:Type}{enc:TypeId×Value→H}{W:World}{a:Option Addr}{len N:Nat}{d:DataW H}{p:List MemPlace}(h:DataW.Trod enc Tryz.prog W 0 (fun _=>true) true 23 (.slice a len N) d p)(hb:Rows.uptoBulk d≤1048576):len≤1048576∧∃A:Nat→Int,RawI W.heap.size W a len A:=by
 obtain⟨U,hf⟩:=h
 rcases open_ints Tryz.underlying23 Tryz.underlying3 zM9 hf with ⟨u,_⟩|⟨x,l,c,D,u,_,hl,hm,hz,hx,j,R⟩
 ·simp[Value.cells]at u
  obtain⟨rfl,rfl,rfl⟩:=u
  exact⟨by omega,fun _=>0,fun i hi=>by omega⟩
 ·simp[Value.cells]at u
  obtain⟨rfl,rfl,rfl⟩:=u
  have X:len≤D.length:=by rw[hz];simp;omega
  obtain⟨rfl,_⟩:=Prod.mk.inj hx
  simp only[Rows.uptoBulk]at hb
  have h1:len≤Rows.uptoBulkAll (lits (H:=H) .i64 (D.take len)):=by
   have h2:=zC6 (lits (H:=H) .i64 (D.take len))
   have h3:(lits (H:=H) .i64 (D.take len)).length=len:=by simp[lits];omega
   omega
  refine⟨by omega,fun i=>D.getD i 0,fun i hi=> ?_⟩
  obtain⟨b,off,J⟩:=x
  have Q:=j i (by omega)
  have F:J=none:=by simpa[Addr.add] using World.cell?_spot (j 0 (by omega))
  subst F
  rw[Go.WideShapes.add_plain]at Q
  have G:D.getD i 0∈D:=by rw[List.getD_eq_getElem?_getD,List.getElem?_eq_getElem (by omega:i<D.length)];exact List.getElem_mem _
  have Z:=zPa (R _ G)
  exact⟨b,off,rfl,block_lt_of_cell Q,Q,Z.1,Z.2⟩
theorem zJN (H:Type)(enc:TypeId×Value→H)(W:World)(base:Nat)(args:Array Value)(ds gs:List (DataW H))(D:List MemPlace)
 (u:∀(j:Nat) t v,Tryz.f3.params[j]? =some t→args[j]? =some v→Value.okWide Tryz.prog W .any base t v)
 (hW:DataW.Whole enc Tryz.prog Tryz.f3.params.toList Rows.unpacksSpec.vars false W args.toList ds gs D)
 (hk:Rows.uptoSmall H (ds++gs)=true)
 (hL:laidMetH Tryz.prog Rows.unpacksUptoRow.laid W) (hS:W.ShapedOpen Tryz.prog):
 Calls Tryz.prog 3 args W fun e W'=>∃v,e=.returned v∧Rows.unpacksSpec.post enc Tryz.prog Tryz.f3 false true false false W args v W':=by
 have aC:=hW
 obtain⟨p,q,Q,hV,rfl,bC,bG⟩:=hW
 have hA:DataW.TrodAll enc Tryz.prog W 0 (fun _=>true) true Tryz.f3.params.toList args.toList ds p:=Q
 rw[Tryz.params3]at hA u
 obtain⟨v0,bS,d0,b0,p0,q0,aD,rfl,rfl,h0,r0⟩:=trodAll_cons hA
 obtain⟨v1,bT,d1,b1,p1,q1,rfl,rfl,rfl,h1,r1⟩:=trodAll_cons r0
 obtain⟨v2,bU,d2,b2,p2,q2,rfl,rfl,rfl,h2,r2⟩:=trodAll_cons r1
 obtain⟨v3,bV,d3,b3,p3,q3,rfl,rfl,rfl,h3,r3⟩:=trodAll_cons r2
 obtain⟨v4,bW,d4,b4,p4,q4,rfl,rfl,rfl,h4,r4⟩:=trodAll_cons r3
 obtain⟨rfl,rfl,rfl⟩:=trodAll_nil r4
 obtain rfl:args= #[v0,v1,v2,v3,v4]:=by cases args;simp_all
 obtain⟨rfl,rfl⟩:=trodVars_none hV
 obtain⟨a0,U,G,rfl⟩:=okWide_slice Tryz.underlying22 (u 0 22 v0 rfl rfl)
 obtain⟨a2,X,J,rfl⟩:=okWide_slice Tryz.underlying22 (u 2 22 v2 rfl rfl)
 obtain⟨a4,Z,N,rfl⟩:=okWide_slice Tryz.underlying23 (u 4 23 v4 rfl rfl)
 obtain⟨o1,rfl,rfl,rfl,aI⟩:=Go.ChangeMaps.open_string Tryz.underlying9 (u 1 9 v1 rfl rfl) h1
 obtain⟨o3,rfl,rfl,rfl,aJ⟩:=Go.ChangeMaps.open_string Tryz.underlying9 (u 3 9 v3 rfl rfl) h3
 have aG:∀x∈p0,x.block<W.heap.size:=by obtain⟨m,R⟩:=h0;exact DataW.trod_lt m _ _ _ R
 have lt2:∀x∈p2,x.block<W.heap.size:=by obtain⟨m,R⟩:=h2;exact DataW.trod_lt m _ _ _ R
 have aH:∀x∈p4,x.block<W.heap.size:=by obtain⟨m,R⟩:=h4;exact DataW.trod_lt m _ _ _ R
 have h8:=zJQ hS
 have hG:=zEn hL h8
 have F:Rows.uptoBulk d0≤1048576∧Rows.uptoBulk d2≤1048576∧Rows.uptoBulk d4≤1048576:=by
  have h1:=of_decide_eq_true hk
  simp only[List.cons_append,List.nil_append,Rows.uptoBulkAll]at h1
  refine⟨?_,?_,?_⟩<;>omega
 obtain⟨bD,L0,a9,aE⟩:=zC2 h0 F.1
 obtain⟨bE,L2,aA,aF⟩:=zC2 h2 F.2.1
 obtain⟨bF,A,aB⟩:=zH3 h4 F.2.2
 clear Q
 refine (zFD kt L0 L2 o1 o3 A a0 a2 a4 U G X J Z N W h8 hG (by omega) (by omega) (by omega) aE aF a9 aA aB).mono fun e W' ⟨he,bel⟩=> ?_
 subst he
 exact⟨_,rfl,_,_,_,[],_,[],aC,trodAll_mk1 (shut_bool Tryz.underlying4 _),(trodAll_cons_mk (Below.trod zEu (by kernel_rfl) (of_decide_eq_true (by kernel_rfl)) h0 bel aG) (trodAll_cons_mk (Go.ChangeMaps.shut_string Tryz.underlying9 aI) (trodAll_cons_mk (Below.trod zEu (by kernel_rfl) (of_decide_eq_true (by kernel_rfl)) h2 bel lt2) (trodAll_cons_mk (Go.ChangeMaps.shut_string Tryz.underlying9 aJ) (trodAll_cons_mk (Below.trod zEu (by kernel_rfl) (of_decide_eq_true (by kernel_rfl)) h4 bel aH) trodAll_mk0))))),rfl,bel.frame _,fun h=>by cases h⟩
def zAB (cs:Array Value):Obj→Obj
 | .cells _ t frozen=>.cells cs t frozen
 |o=>o
def zAY:Array Value:= #[.int .u32 1116352408,.int .u32 1899447441,.int .u32 3049323471,.int .u32 3921009573,.int .u32 961987163,.int .u32 1508970993,.int .u32 2453635748,.int .u32 2870763221,.int .u32 3624381080,.int .u32 310598401,.int .u32 607225278,.int .u32 1426881987,.int .u32 1925078388,.int .u32 2162078206,.int .u32 2614888103,.int .u32 3248222580,.int .u32 3835390401,.int .u32 4022224774,.int .u32 264347078,.int .u32 604807628,.int .u32 770255983,.int .u32 1249150122,.int .u32 1555081692,.int .u32 1996064986,.int .u32 2554220882,.int .u32 2821834349,.int .u32 2952996808,.int .u32 3210313671,.int .u32 3336571891,.int .u32 3584528711,.int .u32 113926993,.int .u32 338241895,.int .u32 666307205,.int .u32 773529912,.int .u32 1294757372,.int .u32 1396182291,.int .u32 1695183700,.int .u32 1986661051,.int .u32 2177026350,.int .u32 2456956037,.int .u32 2730485921,.int .u32 2820302411,.int .u32 3259730800,.int .u32 3345764771,.int .u32 3516065817,.int .u32 3600352804,.int .u32 4094571909,.int .u32 275423344,.int .u32 430227734,.int .u32 506948616,.int .u32 659060556,.int .u32 883997877,.int .u32 958139571,.int .u32 1322822218,.int .u32 1537002063,.int .u32 1747873779,.int .u32 1955562222,.int .u32 2024104815,.int .u32 2227730452,.int .u32 2361852424,.int .u32 2428436474,.int .u32 2756734187,.int .u32 3204031479,.int .u32 3329325298]
def zCc:Array Value:= #[.int .u32 1779033703,.int .u32 3144134277,.int .u32 1013904242,.int .u32 2773480762,.int .u32 1359893119,.int .u32 2600822924,.int .u32 528734635,.int .u32 1541459225]
def zCa:Array Value:=(Go.Pinned.utf8FirstZ.map fun n=>Value.int .u8 ((n:Nat):Int)).toArray
def zCb:Array Value:= #[.int .u8 128,.int .u8 191,.int .u8 160,.int .u8 191,.int .u8 128,.int .u8 159,.int .u8 144,.int .u8 191,.int .u8 128,.int .u8 143,.int .u8 0,.int .u8 0,.int .u8 0,.int .u8 0,.int .u8 0,.int .u8 0,.int .u8 0,.int .u8 0,.int .u8 0,.int .u8 0,.int .u8 0,.int .u8 0,.int .u8 0,.int .u8 0,.int .u8 0,.int .u8 0,.int .u8 0,.int .u8 0,.int .u8 0,.int .u8 0,.int .u8 0,.int .u8 0]
theorem zJg (j:Os):laidMetH Tryz.prog Rows.unpacksUptoRow.laid (({ World.holding Tryz.prog j ⟨#[],#[],[]⟩ with heap:=((((((World.holding Tryz.prog j ⟨#[],#[],[]⟩).heap.modify 1 (zAB #[.iface 238 (.agg #[.pointer (some ⟨7,41,none⟩)])])).modify 0 (zAB zCc)).modify 2 (zAB zAY)).modify 3 (zAB zAY)).modify 5 (zAB zCa)).modify 6 (zAB zCb) }:World).forCall (fun _ _=>0) ⟨#[],#[.slice none 0 0,.string ⟨#[]⟩,.slice none 0 0,.string ⟨#[]⟩,.slice none 0 0],[]⟩).memory:=
 laidMetH_of_parts (laidMet_of_run' 8 (by kernel_rfl) (by kernel_rfl)) (by kernel_rfl)
theorem zPF (u:Os){H:Type}(enc:TypeId×Value→H):∃j,DataW.whole enc Tryz.prog (({ World.holding Tryz.prog u ⟨#[],#[],[]⟩ with heap:=((((((World.holding Tryz.prog u ⟨#[],#[],[]⟩).heap.modify 1 (zAB #[.iface 238 (.agg #[.pointer (some ⟨7,41,none⟩)])])).modify 0 (zAB zCc)).modify 2 (zAB zAY)).modify 3 (zAB zAY)).modify 5 (zAB zCa)).modify 6 (zAB zCb) }:World).forCall (fun _ _=>0) ⟨#[],#[.slice none 0 0,.string ⟨#[]⟩,.slice none 0 0,.string ⟨#[]⟩,.slice none 0 0],[]⟩).memory Tryz.f3.params.toList Rows.unpacksSpec.vars false #[Value.slice none 0 0,.string ⟨#[]⟩,.slice none 0 0,.string ⟨#[]⟩,.slice none 0 0].toList 8=some ([.nil,.lit (.string []),.nil,.lit (.string []),.nil],[],j):=
 ⟨[],by kernel_rfl⟩
theorem zGZ (D:Os)(j:D.Started)(H:Type)(enc:TypeId×Value→H)(F:Stop.Interp):
 ReturnsInHanded {} Tryz.checked D 3 .any ((Rows.OpenSpec.upto Rows.unpacksSpec).preRow enc Tryz.prog Tryz.f3 Rows.unpacksUptoRow.domain false Rows.unpacksUptoRow.laid) (((Rows.OpenSpec.upto Rows.unpacksSpec).at F).post enc Tryz.prog Tryz.f3 false true false false):=by
 obtain⟨J,Z⟩:=zPF D enc
 refine returnsInHanded_of_row (C:=Tryz.checked) (s:=Rows.OpenSpec.upto Rows.unpacksSpec) own j (by kernel_rfl) Tryz.func3
  (witness_row_at (enc:=enc) (C:=Tryz.checked) false ({ World.holding Tryz.prog D ⟨#[],#[],[]⟩ with heap:=((((((World.holding Tryz.prog D ⟨#[],#[],[]⟩).heap.modify 1 (zAB #[.iface 238 (.agg #[.pointer (some ⟨7,41,none⟩)])])).modify 0 (zAB zCc)).modify 2 (zAB zAY)).modify 3 (zAB zAY)).modify 5 (zAB zCa)).modify 6 (zAB zCb) }:World) #[.slice none 0 0,.string ⟨#[]⟩,.slice none 0 0,.string ⟨#[]⟩,.slice none 0 0] rfl (by kernel_rfl) (by kernel_rfl) (by kernel_rfl)
    (OpenSpec.preRow_of_cond 8 Z (by kernel_rfl) (fun k hk=>by cases hk;kernel_rfl) (by kernel_rfl) (zJg D))) ?_
 intro W base args N Q u G X _ A _ R U _
 exact zJN H enc W base args N Q u G X (A _ rfl) R U
theorem zJ7:Rows.UnpacksUptoSaid:=
 OpenClaim.holds_of_cond 3 Tryz.f3 rfl rfl rfl rfl rfl rfl rfl ⟨rfl,rfl,rfl,rfl,rfl⟩ rfl rfl rfl rfl rfl (by kernel_rfl) Tryz.func3 unpacksClosed
  (of_decide_eq_true (by kernel_rfl)) (by unfold Func.isWrapper;first|(rw[if_pos (by decide+kernel)];kernel_rfl)|(rw[if_neg (by decide+kernel)];exact⟨rfl,rfl⟩))
  (fun u j H enc _ F=>by rw[OpenClaim.pre_eq_preRow];exact zGZ u j H enc F)
theorem zPA (f:FuncId)(fn:Func)(hf:Tryz.pinned.checked.prog.funcNamed "vault/vaultlaw.Unpacks" =some f)(u:Tryz.pinned.checked.prog.funcs[f]? =some fn):
 true=Tryz.pinned.checked.prog.looks []∧∀(j:Nat) t,fn.params[j]? =some t→Tryz.pinned.checked.prog.wantsStandIn t=false:=by
 obtain rfl:f=3:=Option.some.inj ((show Tryz.prog.funcNamed "vault/vaultlaw.Unpacks" =some 3 by kernel_rfl).symm.trans hf)|>.symm
 obtain rfl:fn=Tryz.f3:=(Option.some.inj (Tryz.func3.symm.trans u)).symm
 refine⟨by kernel_rfl,fun j t A=> ?_⟩
 rw[Tryz.params3]at A
 have G:=Array.mem_of_getElem? A
 have F:t=22∨t=9∨t=23:=by
  have D:t=22∨t=9∨t=22∨t=9∨t=23:=by simpa using G
  rcases D with h|h|h|h|h
  ·exact .inl h
  ·exact .inr (.inl h)
  ·exact .inl h
  ·exact .inr (.inl h)
  ·exact .inr (.inr h)
 rcases F with rfl|rfl|rfl
 ·exact (show Tryz.prog.wantsStandIn 22=false by kernel_rfl)
 ·exact (show Tryz.prog.wantsStandIn 9=false by kernel_rfl)
 ·exact (show Tryz.prog.wantsStandIn 23=false by kernel_rfl)
theorem unpacks_upto_card:Rows.UnpacksUptoCardSaid:=
 Claim7.holds_tied_plain_at .later [] _ _ _ _ zJ7 (fun _ h=>by cases h) (by kernel_rfl) (fun _ h=>by cases h) unpacksUpto_row_tie rfl ⟨rfl,rfl⟩ (by kernel_rfl) rfl zPA (by kernel_rfl)
end Go.Proofs.YtlopecgkiikdhaaGreatDoor
