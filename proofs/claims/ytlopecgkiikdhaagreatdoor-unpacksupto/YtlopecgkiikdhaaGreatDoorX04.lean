import Derived.Test.YtlopecgkiikdhaaGreatDoorX03
import Derived.Lib.BufferWrite
import Derived.Deep.RegionLaw
import Derived.StillTailTactics
namespace Go.Proofs.YtlopecgkiikdhaaGreatDoor
open Go.RowKit
set_option maxRecDepth 100000
set_option maxHeartbeats 400000 in
theorem zA4 (k m:Nat)(w:World)(j:1≤k)(u:k+m≤255):
 Calls Tryz.prog 185 #[.int .i64 k,.int .i64 m] w fun e w'=>e=.returned .nilIface∧w'=w:=by
 have A:(1:Int)≤(k:Int):=by omega
 have D:(k:Int)≤255:=by omega
 have F:(0:Int)≤(m:Int):=by omega
 have G:(m:Int)≤255-(k:Int):=by omega
 go_enter Tryz.func185,Tryz.ntmps185
 go_wp2
 go_ret
 exact⟨rfl,rfl⟩
theorem zNA:Tryz.prog.cellsOf 5=1:=by kernel_rfl
theorem zPP:(Tryz.prog.info? 5).map (·.size)=some 1:=by kernel_rfl
set_option maxHeartbeats 1000000 in
set_option maxRecDepth 100000 in
theorem zDt (s:ByteArray)(w:World)(hs:s.size≤140737488351232):
 Calls Tryz.prog 168 #[.string s] w fun e w'=>e=.returned (.string s)∧Below w.heap.size w w':=by
 by_cases W:s.size=0
 ·obtain rfl:s=⟨#[]⟩:=ByteArray.ext (Array.eq_empty_of_size_eq_zero W)
  go_enter Tryz.func168,Tryz.ntmps168
  go_wp2
  go_ret
  exact⟨rfl,Below.refl _ _⟩
 ·have R:=run_make_row' (P:=Tryz.prog) 173 5 (.int .u8 0) 1 Tryz.underlying173 zJe rfl .i64 .i64 s.size (by omega) (by omega)
  obtain⟨M,G⟩:∃M,M=madeCells #[Value.int .u8 0] s.size:=⟨_,rfl⟩
  have Z:M.size=s.size:=by rw[G,size_madeCells]
  rw[←G]at R
  clear G
  have Q:=Lib.run_copy_row_string (P:=Tryz.prog) (w.alloc (.cells M 5)) 173 9 3 5 w.heap.size 0 s.size s.size s M 5 Tryz.underlying173 zPP (heap_alloc_new w _) (Nat.le_refl _) (by omega)
  obtain⟨Y,J⟩:∃Y,Y=(M.toList.take 0++Lib.byteCells s.data.toList++M.toList.drop (0+s.size)).toArray:=⟨_,rfl⟩
  rw[←J]at Q
  have u:Y.toList=Lib.byteCells s.data.toList:=by
   rw[J,List.toList_toArray,List.take_zero,List.nil_append,List.drop_of_length_le (by rw[Array.length_toList];omega),List.append_nil]
  have N:Y.size=s.size:=by rw[←Array.length_toList,u,Lib.byteCells_length];simp
  have F:((w.alloc (.cells M 5)).setRow w.heap.size Y).heap[w.heap.size]? =some (.cells Y 5 (0,0)):=setRow_heap _ _ M _ 5 (0,0) (heap_alloc_new w _)
  have A:s.data.toList.length=s.size:=by simp
  have U:=Lib.run_unsafeString_row (P:=Tryz.prog) ((w.alloc (.cells M 5)).setRow w.heap.size Y) 279 3 9 5 Tryz.underlying279 zNA w.heap.size Y.size (by unfold World.shape?;rw[F]) s.data.toList (fun e=>W (by rw[←A,e];rfl)) (by omega) (by omega)
   (fun j x hx=>by
     have D:(⟨w.heap.size,0,none⟩:Addr).add j=⟨w.heap.size,j,none⟩:=by unfold Addr.add;split<;>simp_all
     rw[D,cell_of_row _ _ _ _ 5 (0,0) F,←Array.getElem?_toList,u]
     simp[Lib.byteCells,hx])
  rw[A]at U
  clear J u N A
  have X:Below w.heap.size w ((w.alloc (.cells M 5)).setRow w.heap.size Y):=((Below.refl _ w).alloc (Nat.le_refl _) _).trans ⟨rfl,rfl,rfl,by simp,fun k hk=>setRow_other _ _ _ _ (by omega)⟩
  go_enter Tryz.func168,Tryz.ntmps168
  go_wp2
  go_ret
  exact⟨rfl,Lib.below_freeze X (p:=⟨w.heap.size,0,none⟩) (Nat.le_refl _) _⟩
set_option maxHeartbeats 400000 in
theorem zC1 (s:ByteArray)(w:World)(hs:s.size≤140737488351232):
 Calls Tryz.prog 133 #[.string s] w fun e w'=>e=.returned (.string s)∧Below w.heap.size w w':=by
 have H:Hid _:=zDt s w hs
 go_enter Tryz.func133,Tryz.ntmps133
 go_wp2_with fail
 refine Calls.mono H.out ?_
 rintro e u ⟨rfl,j⟩
 go_wp2
 go_ret
 exact⟨rfl,j⟩
def zOn (c:Int):Nat:=if c<0 then (-(c+1)).toNat else c.toNat
def pk (c:Int)(n:Nat):Nat:=zOn c%n
def vb:Nat→Nat→List Nat
 |0,n=>[n]
 |f+1,n=>if n<128 then [n] else (n%128+128)::vb f (n/128)
theorem zIv:∀f n,(vb f n).length≤f+1
 |0,n=>by simp[vb]
 |f+1,n=>by
  rw[vb]
  have:=zIv f (n/128)
  split
  ·simp
  ·simp;omega
def u8s (l:List Nat):List Value:=l.map fun x=>.int .u8 ((x:Nat):Int)
theorem zGE (l:List Nat)(x:Nat):u8s (l++[x])=u8s l++[.int .u8 ((x:Nat):Int)]:=by simp[u8s]
def zm (n:Nat):ByteArray:=strOfNums ((vb 4 n).map fun x=>((x:Nat):Int))
theorem zO (n:Nat):(zm n).size≤5:=by
 unfold zm
 rw[strOfNums_size,List.length_map]
 exact zIv 4 n
theorem zMM:∀y:Fin 256,bits .or .u8 ((y.val:Nat):Int) 128=((y.val%128+128:Nat):Int):=by decide+kernel
theorem zNw (x:Nat):bits .or .u8 ((x:Int)%256) 128=((x%128+128:Nat):Int):=by
 have h:=zMM ⟨x%256,Nat.mod_lt _ (by omega)⟩
 have e:((x%256:Nat):Int)=(x:Int)%256:=by omega
 rw[←e,h]
 have j:x%256%128=x%128:=by omega
 show (((x%256)%128+128:Nat):Int)=_
 rw[j]
theorem zNa:(Tryz.prog.info? 5).map (fun i=>(i.zero,i.size,i.bytes))=some (some (.int .u8 0),1,1):=by kernel_rfl
theorem zA {w:World}{base:Nat}{e:TypeId}{size:Nat}{v:Value}{n:Nat}{u:List Value}(h:w.ownsRow base e size v n u):∃a j,v=.slice a n j:=by
 rcases h.2 with ⟨rfl,rfl⟩|⟨g,j,cur,rfl,_⟩
 ·exact⟨none,0,rfl⟩
 ·exact⟨_,_,rfl⟩
theorem zG {w:World}{base:Nat}{e:TypeId}{size:Nat}{v:Value}{n:Nat}{D:List Value}(h:w.ownsRow base e size v n D):∀r,v.ownBlock=some r→r<w.heap.size:=by
 intro r j
 rcases h.2 with ⟨rfl,_⟩|⟨g,u,cur,rfl,_,A,_⟩
 ·cases j
 ·cases j;exact (Array.getElem?_eq_some_iff.1 A).1
theorem zK {w:World}{base:Nat}{e:TypeId}{size:Nat}{v:Value}{n:Nat}{A:List Value}(h:w.ownsRow base e size v n A):∀g,v.ownBlock=some g→base≤g:=by
 intro g j
 rcases h.2 with ⟨rfl,_⟩|⟨D,u,cur,rfl,hb,_⟩
 ·simp[Value.ownBlock]at j
 ·simp[Value.ownBlock]at j;omega
theorem zIA {w:World}{base:Nat}{v:Value}{n:Nat}{l:List Nat}(h:w.ownsRow base 5 1 v n (u8s l))(hl:l.length=n)(A:0<n):(convert 173 9 v).run Tryz.prog w=.ok (.string (strOfNums (l.map fun x=>((x:Nat):Int)))) w:=by
 rcases h.2 with ⟨_,D⟩|⟨g,j,cur,u,_⟩
 ·omega
 ·subst u
  refine run_convert_bytes_arg (P:=Tryz.prog) w 173 5 Tryz.underlying173 Tryz.underlying5 g 0 n j (l.map fun x=>((x:Nat):Int)) (by simp[hl]) (fun i hi=> ?_) 9 Tryz.underlying9
  rw[Nat.zero_add,h.cellAt i (by omega)]
  simp[u8s,hl,hi]
set_option maxHeartbeats 2000000 in
theorem zAZ (n:Nat)(w:World)(hn:n<4294967296):
 Calls Tryz.prog 164 #[.int .u32 n] w fun e w'=>e=.returned (.string (zm n))∧Below w.heap.size w w':=by
 obtain⟨i0,hi,a1,a2,a4⟩:=info_parts zNa
 go_enter Tryz.func164,Tryz.ntmps164
 go_wp2
 go_loopw [0,3] (fun xv v wr=>∃(x f L:Nat) (pre:List Nat),xv=.int .u32 x∧x<4294967296∧x<128 ^ (f+1)∧f≤4∧pre.length=L∧L+f=4∧pre++vb f x=vb 4 n∧wr.ownsRow w.heap.size 5 1 v L (u8s pre)∧Below w.heap.size w wr) (fun xv _ _=>(intOf xv).toNat)
 case atStart=>exact⟨n,4,0,[],rfl,hn,by omega,by omega,rfl,by omega,rfl,World.ownsRow_nil _ _ _ _,Below.refl _ _⟩
 case round=>
  obtain⟨x,f,L,pre,rfl,hx,Z,hf,hL,aJ,Q,J,W⟩:=hrel
  obtain⟨va,vc,hv⟩:=zA J
  subst hv
  have U:Hid _:=Q
  have a5:Hid _:=Z
  have HL:Hid _:=hL
  have R:Hid (wr.ownsRow w.heap.size 5 1 (.slice va L vc) L (u8s pre)):=J
  have HB:Hid (Below w.heap.size w wr):=W
  clear Q Z hL J W
  by_cases aL:128≤x
  ·have aA:=zNw x
   have D:w.heap.size≤(wr.alloc (Obj.cells #[Value.int IntKind.u8 ((x%128+128:Nat):Int)] 5)).heap.size:=by have:=HB.out.size;simp;omega
   have a9:(128:Int)≤(x:Int):=by omega
   go_wp2_with (at_builtin;refine wpList_append_own_at _ rfl (.tmp 6) (.tmp 10) 173 rfl w.heap.size 5 i0 (.int .u8 0) 1 1 Tryz.underlying173 hi a1 a2 a4 rfl (by decide) _ L (u8s pre) rfl (R.out.alloc _) ⟨wr.heap.size,0,none⟩ 1 1 [.int .u8 ((x%128+128:Nat):Int)] rfl rfl (cell_one_new _ _ _) (by intro u X;simp at X;subst X;rfl) ?kb ?kc D ?_)
   case kb=>unfold maxLen;omega
   case kc=>omega
   intro v' w' A j _ G
   have F:Below w.heap.size w w':=(HB.out.alloc HB.out.size _).grown j D (fun g hg=>zK R.out g hg)
   have N:w'.ownsRow w.heap.size 5 1 v' (L+1) (u8s (pre++[x%128+128])):=by rw[zGE];exact A
   clear A j G R HB D aA
   go_wp2
   go_roundw
   case rel=>
    have h1:=a5.out
    have aK:1≤f:=by
     rcases Nat.eq_zero_or_pos f with h|h
     ·rw[h]at h1;omega
     ·exact h
    obtain⟨f',rfl⟩:∃f',f=f'+1:=⟨f-1,by omega⟩
    refine⟨x/128,f',L+1,pre++[x%128+128],by go_num,by omega,?_,by omega,by simp[HL.out],by omega,?_,N,F⟩
    ·rw[Nat.pow_succ]at h1;omega
    ·rw[←U.out,vb,if_neg (by omega),List.append_assoc];rfl
   case measure=>simp[intOf];omega
  ·have a9:(x:Int)<128:=by omega
   have aG:(x:Int)%256=(x:Int):=by omega
   have HV:Hid (pre++[x]=vb 4 n):=by
    show pre++[x]=vb 4 n
    rw[←U.out]
    cases f with
    |zero=>rfl
    |succ f=>rw[vb,if_pos (by omega)]
   have D:w.heap.size≤(wr.alloc (Obj.cells #[Value.int IntKind.u8 ((x:Nat):Int)] 5)).heap.size:=by have:=HB.out.size;simp;omega
   go_wp2_with (at_builtin;refine wpList_append_own_at _ rfl (.tmp 14) (.tmp 17) 173 rfl w.heap.size 5 i0 (.int .u8 0) 1 1 Tryz.underlying173 hi a1 a2 a4 rfl (by decide) _ L (u8s pre) rfl (R.out.alloc _) ⟨wr.heap.size,0,none⟩ 1 1 [.int .u8 ((x:Nat):Int)] rfl rfl (cell_one_new _ _ _) (by intro u X;simp at X;subst X;rfl) ?kb ?kc D ?_)
   case kb=>unfold maxLen;omega
   case kc=>omega
   intro v' w' A j _ G
   have F:Below w.heap.size w w':=(HB.out.alloc HB.out.size _).grown j D (fun g hg=>zK R.out g hg)
   have N:w'.ownsRow w.heap.size 5 1 v' (L+1) (u8s (pre++[x])):=by rw[zGE];exact A
   have a7:=zIA N (by simp[HL.out]) (by omega)
   rw[HV.out]at a7
   clear A j G R HB D N
   go_wp2
   go_ret
   exact⟨rfl,F⟩
set_option maxHeartbeats 1000000
def pc (s:ByteArray)(z i:Nat):ByteArray:=s.extract (i*z) ((i+1)*z)
theorem zMV (s:ByteArray)(z c i:Nat)(hs:s.size=c*z)(hi:i<c):(pc s z i).size=z:=by
 unfold pc
 rw[ByteArray.size_extract]
 have j:(i+1)*z≤c*z:=Nat.mul_le_mul_right z (by omega)
 rw[Nat.min_eq_left (by omega),Nat.succ_mul]
 omega
def tX (S:Nat→ByteArray):Nat→Value:=fun i=>.string (S i)
theorem zAf (p V:Nat)(hp:p≤1000000000000):wrap64 ((p:Int)/(V:Int))=((p/V:Nat):Int):=by
 have h:p/V≤p:=Nat.div_le_self p V
 rw[←Int.natCast_ediv]
 obtain⟨q,j⟩:∃q,p/V=q:=⟨_,rfl⟩
 rw[j]at h ⊢
 unfold wrap64
 omega
theorem zCX (V n v:Nat)(w:World)(X:0<V)(R:V≤1000)(A:n≤100000)(D:v≤1000):
 Calls Tryz.prog 139 #[.int .i64 V,.int .i64 n,.int .i64 v] w fun e w'=>e=.returned (.tuple #[.int .i64 ((v*n/V:Nat):Int),.int .i64 (((v+1)*n/V:Nat):Int)])∧∃q,w'=w.drewN q:=by
 have J:v*n≤100000000:=Nat.le_trans (Nat.mul_le_mul D A) (by omega)
 have N:(v+1)*n≤200000000:=Nat.le_trans (Nat.mul_le_mul (Nat.add_le_add_right D 1) A) (by omega)
 obtain⟨p,hp⟩:∃p,v*n=p:=⟨_,rfl⟩
 obtain⟨u,j⟩:∃u,(v+1)*n=u:=⟨_,rfl⟩
 have U:(v:Int)*(n:Int)=((p:Nat):Int):=by rw[←hp];simp
 have W:((v:Int)+1)*(n:Int)=((u:Nat):Int):=by rw[←j];simp
 have Q:((V:Int) == 0)=false:=by simp;omega
 rw[hp]at J ⊢
 rw[j]at N ⊢
 clear hp j
 have F:=zAf p V (by omega)
 have G:=zAf u V (by omega)
 go_enter Tryz.func139,Tryz.ntmps139
 go_wp2
 go_quiet (fail)
 go_wp2
 go_ret2
 refine⟨?_,nq,rfl⟩
 show Ending.returned (.tuple #[.int .i64 (wrap64 ((p:Int)/(V:Int))),.int .i64 (wrap64 ((u:Int)/(V:Int)))])=_
 rw[F,G]
theorem zLV (s:ByteArray)(z c:Nat)(w:World)(hz:0<z)(R:z≤100000)(Z:c≤100000)(hs:s.size=c*z):
 Calls Tryz.prog 100 #[.string s,.int .i64 z] w fun e w'=>e=.returned (.slice (some ⟨w.heap.size,0,none⟩) c c)∧Rw w' w.heap.size c 9 (tX (pc s z))∧Below w.heap.size w w':=by
 have a6:s.size≤10000000000:=by rw[hs];exact Nat.le_trans (Nat.mul_le_mul Z R) (by omega)
 have D:s.size/z=c:=by rw[hs];exact Nat.mul_div_cancel _ hz
 have hd:=zAf s.size z (by omega)
 rw[D]at hd
 have a8:((z:Int) == 0)=false:=by simp;omega
 have a4:=run_make_row' (P:=Tryz.prog) 22 9 (.string ⟨#[]⟩) 16 Tryz.underlying22 zAl rfl .i64 .i64 c (by omega) (by omega)
 have X:Hid _:=hs
 clear hs D
 go_enter Tryz.func100,Tryz.ntmps100
 go_wp2
 go_loopw [14] (fun U wr=>∃i:Nat,i≤c∧U=.int .i64 i∧Below w.heap.size w wr∧Rw wr w.heap.size c 9 (zL i (tX (pc s z)) (.string ⟨#[]⟩))) (fun U _=>c-(intOf U).toNat)
 case atStart=>exact⟨0,by omega,rfl,(Below.refl _ _).alloc (Nat.le_refl _) _,(Rw.made w c 9 (.string ⟨#[]⟩)).to (fun j _=>(zo _ _ j).symm)⟩
 case round=>
  obtain⟨i,hi,rfl,hb,F⟩:=hrel
  by_cases Q:i<c
  ·have c1:=F.cell i Q
   have c2:=F.free i
   have J:(i+1)*z≤s.size:=by rw[X.out];exact Nat.mul_le_mul_right z (by omega)
   have N:i*z≤(i+1)*z:=Nat.mul_le_mul_right z (by omega)
   obtain⟨lo,A⟩:∃lo,i*z=lo:=⟨_,rfl⟩
   obtain⟨up,u⟩:∃up,(i+1)*z=up:=⟨_,rfl⟩
   have e1:(i:Int)*(z:Int)=((lo:Nat):Int):=by rw[←A];simp
   have e2:((i:Int)+1)*(z:Int)=((up:Nat):Int):=by rw[←u];simp
   rw[A,u]at N
   rw[u]at J
   have G:Hid (pc s z i=s.extract lo up):=by show pc s z i=s.extract lo up;unfold pc;rw[A,u]
   clear A u
   have a5:∀W,(Instr.slice 9 (.string s) (some (.int .i64 ((lo:Nat):Int))) (some (.int .i64 ((up:Nat):Int))) none).run Tryz.prog W=.ok (.string (s.extract lo up)) W:=fun W=>by
    rw[run_slice_string W 9 s .i64 .i64 _ _ Tryz.underlying9 (by omega) (by omega) (by omega),Int.toNat_natCast,Int.toNat_natCast]
   have a1:(i:Int)<(c:Int):=by omega
   go_wp2
   go_roundw
   case rel=>exact⟨i+1,by omega,by go_num,hb.setCell (Nat.le_refl _) _,(F.put i _).to (fun j _=>by rw[←G.out,←zN];rfl)⟩
   case measure=>simp[intOf];omega
  ·have e:i=c:=by omega
   subst e
   go_wp2
   go_ret
   exact⟨rfl,F.to (fun j hj=>by simp[zL,hj]),hb⟩
def nst (z len:Nat):Nat:=(len+z-1)/z
theorem zAg (K M C V len z:Nat)(w:World)(A:K*C=z)(G:0<z)(J:z≤100000)(hl:len≤100000):
 Calls Tryz.prog 143 #[.agg #[.int .i64 K,.int .i64 M,.int .i64 C,.int .i64 V],.int .i64 len] w fun e w'=>e=.returned (.int .i64 (nst z len:Nat))∧Below w.heap.size w w':=by
 have N:(K:Int)*(C:Int)=(z:Int):=by rw[←A];simp
 have u:(len:Int)+(z:Int)-1=((len+z-1:Nat):Int):=by omega
 have j:((len:Int)+(z:Int)-1)/(z:Int)=(((len+z-1)/z:Nat):Int):=by rw[u,Int.natCast_ediv]
 have F:((z:Int) == 0)=false:=by simp;omega
 unfold nst
 have D:Hid _:=j
 clear A u j
 go_enter Tryz.func143,Tryz.ntmps143
 go_wp2
 go_ret
 refine⟨?_,(Below.refl _ _).alloc (Nat.le_refl _) _⟩
 show Ending.returned (.int .i64 (((len:Int)+(z:Int)-1)/(z:Int)))=_
 rw[D.out]
theorem zB9 (K M C V len z:Nat)(w:World)(hz:K*C=z)(U:0<z)(X:z≤100000)(hl:len≤100000)(hK:K≤1000)(hM:M≤1000):
 Calls Tryz.prog 141 #[.agg #[.int .i64 K,.int .i64 M,.int .i64 C,.int .i64 V],.int .i64 len] w fun e w'=>e=.returned (.int .i64 (nst z len*(K+M):Nat))∧Below w.heap.size w w':=by
 have H:Hid (∀W,_):=fun W=>zAg K M C V len z W hz U X hl
 have J:nst z len≤200000:=Nat.le_trans (Nat.div_le_self _ _) (by omega)
 obtain⟨n,Z⟩:∃n,nst z len=n:=⟨_,rfl⟩
 rw[Z]at H J ⊢
 have h1:n*(K+M)≤400000000:=Nat.le_trans (Nat.mul_le_mul J (show K+M≤2000 by omega)) (by omega)
 obtain⟨r,Q⟩:∃r,n*(K+M)=r:=⟨_,rfl⟩
 have e1:(n:Int)*((K:Int)+(M:Int))=(r:Int):=by rw[←Q];simp
 rw[Q]at h1 ⊢
 clear Z Q hz
 go_enter Tryz.func141,Tryz.ntmps141
 go_wp2
 obtain⟨u,A⟩:∃u,u=w.alloc (Obj.cells #[Value.int IntKind.i64 K,Value.int IntKind.i64 M,Value.int IntKind.i64 C,Value.int IntKind.i64 V] 81):=⟨_,rfl⟩
 have F:u.heap[w.heap.size]? =some (.cells #[.int .i64 K,.int .i64 M,.int .i64 C,.int .i64 V] 81 (0,0)):=by rw[A];exact heap_alloc_new _ _
 have G:Hid (Below w.heap.size w u):=by show Below _ _ _;rw[A];exact (Below.refl _ _).alloc (Nat.le_refl _) _
 rw[←A]
 clear A
 obtain⟨x,R⟩:∃x,x=w.heap.size:=⟨_,rfl⟩
 rw[←R]at F ⊢
 have HX:Hid _:=R
 clear R
 have c0:u.cell? ⟨x,0,none⟩=some (.int .i64 K):=cell_of_row _ _ _ _ 81 _ F
 have c1:u.cell? ⟨x,1,none⟩=some (.int .i64 M):=cell_of_row _ _ _ _ 81 _ F
 have c2:u.cell? ⟨x,2,none⟩=some (.int .i64 C):=cell_of_row _ _ _ _ 81 _ F
 have c3:u.cell? ⟨x,3,none⟩=some (.int .i64 V):=cell_of_row _ _ _ _ 81 _ F
 clear F
 go_region_held3 (fun w'=>w'.cell? ⟨x,0,none⟩=some (.int .i64 K)∧w'.cell? ⟨x,1,none⟩=some (.int .i64 M)∧w'.cell? ⟨x,2,none⟩=some (.int .i64 C)∧w'.cell? ⟨x,3,none⟩=some (.int .i64 V)) (go_keep) (first|(go_at_call 143;refine Calls.mono (H.out _) ?_;rintro e r1 ⟨rfl,j⟩;have D:=block_lt_of_cell c0;have d0:r1.cell? ⟨x,0,none⟩=some (.int .i64 K):=(j.cell (p:=⟨x,0,none⟩) D).trans c0;have d1:r1.cell? ⟨x,1,none⟩=some (.int .i64 M):=(j.cell (p:=⟨x,1,none⟩) D).trans c1;have d2:r1.cell? ⟨x,2,none⟩=some (.int .i64 C):=(j.cell (p:=⟨x,2,none⟩) D).trans c2;have d3:r1.cell? ⟨x,3,none⟩=some (.int .i64 V):=(j.cell (p:=⟨x,3,none⟩) D).trans c3))
 go_wp2
 go_ret
 have a1:IntKind.i64.wrap ((K:Int)+(M:Int))=(K:Int)+(M:Int):=by rw[IntKind.wrap_i64];omega
 have a2:IntKind.i64.wrap (r:Int)=(r:Int):=by rw[IntKind.wrap_i64];omega
 refine⟨?_,?_⟩
 ·show Ending.returned (.int .i64 (IntKind.i64.wrap ((n:Int)*IntKind.i64.wrap ((K:Int)+(M:Int)))))=_
  rw[a1,e1,a2]
 ·have N:Below u.heap.size u r1:=by first|exact j|exact ((Below.refl _ _).drew).trans j
  exact G.out.trans (N.mono G.out.size)
theorem zH (w:World)(g k:Nat)(v:Value)(j:Array Value)(t:TypeId)(fr:Nat×Nat)(h:w.heap[g]? =some (.cells j t fr)):(w.setCell ⟨g,k,none⟩ v).heap[g]? =some (.cells (j.setIfInBounds k v) t fr):=by
 simp[World.setCell,Array.getElem?_modify,h]
theorem zC (w:World)(g k j:Nat)(v:Value)(h:j≠g):(w.setCell ⟨g,k,none⟩ v).heap[j]? =w.heap[j]? :=Below.heap_setCell _ _ _ _ (by simpa using h)
theorem zCY {P:Program}{id:Nat}{Q:Exit→Act→World→Prop}{a:Act}{w:World}{l:List Oper}(n:Nat)(A:P.follows .mixedOrders=true)(u:Region.lexTailB .any l.toArray n=true)
 (h:wpStill P l.toArray w.drew (fun j=>wpList P l.toArray Q (l.drop n) j w.drew) (l.take n) a):(Code.region id l.toArray true).wp P Q a w:=
 wp_region_still_tail n A u h
def Calm (w w':World):Prop:=w'.os=w.os∧w'.tape=w.tape∧w'.output=w.output
theorem Calm.trans {a b c:World}(h:Calm a b)(k:Calm b c):Calm a c:=⟨k.1.trans h.1,k.2.1.trans h.2.1,k.2.2.trans h.2.2⟩
theorem Calm.below {B:Nat}{a b:World}(h:Below B a b):Calm a b:=⟨h.os,h.tape,h.output⟩
theorem Calm.grown {a b:World}{r:Option Nat}(h:a.grownBy b r):Calm a b:=⟨h.os,h.tape,h.output⟩
theorem Calm.set {a b:World}(h:Calm a b)(p:Addr)(v:Value):Calm a (b.setCell p v):=h
structure Fr (S:Nat→Prop)(w w':World):Prop where
 size:w.heap.size≤w'.heap.size
 old:∀j,j<w.heap.size→¬S j→w'.heap[j]? =w.heap[j]?
 calm:Calm w w'
def Gro (S S':Nat→Prop)(n:Nat):Prop:=∀j,S' j→S j∨n≤j
theorem Gro.refl (S:Nat→Prop)(n:Nat):Gro S S n:=fun _ h=>.inl h
theorem Calm.refl (w:World):Calm w w:=⟨rfl,rfl,rfl⟩
theorem Fr.refl (S:Nat→Prop)(w:World):Fr S w w:=⟨Nat.le_refl _,fun _ _ _=>rfl,Calm.refl w⟩
theorem Fr.below {S:Nat→Prop}{w w':World}(h:Below w.heap.size w w'):Fr S w w':=⟨h.size,fun j u _=>h.block j u,Calm.below h⟩
theorem Fr.toBelow {w w':World}(h:Fr (fun _=>False) w w'):Below w.heap.size w w':=⟨h.calm.1,h.calm.2.1,h.calm.2.2,h.size,fun k hk=>h.old k hk (fun h=>h)⟩
theorem Fr.mono {S T:Nat→Prop}{w w':World}(h:Fr S w w')(hs:∀j,j<w.heap.size→S j→T j):Fr T w w':=⟨h.size,fun j A D=>h.old j A (fun u=>D (hs j A u)),h.calm⟩
theorem Fr.trans {S S1:Nat→Prop}{w G J:World}(h:Fr S w G)(N:Gro S S1 w.heap.size)(u:Fr S1 G J):Fr S w J:=
 ⟨Nat.le_trans h.size u.size,fun j D F=>by
  rw[u.old j (Nat.lt_of_lt_of_le D h.size) (fun hs=>by rcases N j hs with A|A;exact F A;omega)];exact h.old j D F,h.calm.trans u.calm⟩
theorem Fr.trans' {S:Nat→Prop}{w j u:World}(h:Fr S w j)(A:Fr S j u):Fr S w u:=h.trans (Gro.refl _ _) A
theorem Fr.thenBelow {S:Nat→Prop}{w j u:World}(h:Fr S w j)(A:Below j.heap.size j u):Fr S w u:=h.trans' (Fr.below A)
theorem Fr.set {S:Nat→Prop}{w w':World}{g:Nat}(h:Fr S w w')(D:S g∨w.heap.size≤g)(k:Nat)(v:Value):Fr S w (w'.setCell ⟨g,k,none⟩ v):=
 ⟨by have:=h.size;simpa[World.setCell] using this,fun j F A=>by
  rw[zC _ _ _ _ _ (fun e=>by subst e;rcases D with u|u;exact A u;omega)];exact h.old j F A,h.calm.set _ _⟩
theorem Fr.alloc {S:Nat→Prop}{w w':World}(h:Fr S w w')(o:Obj):Fr S w (w'.alloc o):=
 h.thenBelow ((Below.refl _ _).alloc (Nat.le_refl _) _)
theorem Fr.drew {S:Nat→Prop}{w w':World}(h:Fr S w w'):Fr S w w'.drew:=h.thenBelow ((Below.refl _ _).drew)
theorem Fr.grown {S:Nat→Prop}{w G J:World}{row:Option Nat}(h:Fr S w G)(u:G.grownBy J row)(N:∀q,row=some q→S q∨w.heap.size≤q):Fr S w J:=
 ⟨Nat.le_trans h.size u.size,fun j D F=>by
  rw[u.block j (Nat.lt_of_lt_of_le D h.size) (fun e=>by rcases N j e.symm with A|A;exact F A;omega)];exact h.old j D F,h.calm.trans (Calm.grown u)⟩
theorem Fr.cell {S:Nat→Prop}{w w':World}{g:Nat}(h:Fr S w w')(j:g<w.heap.size)(u:¬S g)(k:Nat):w'.cell? ⟨g,k,none⟩=w.cell? ⟨g,k,none⟩:=World.cell?_of_block (h.old g j u)
theorem zD {w w':World}{base:Nat}{e:TypeId}{size:Nat}{v:Value}{n:Nat}{D:List Value}(h:w.ownsRow base e size v n D)(hb:∀q,v.ownBlock=some q→w'.heap[q]? =w.heap[q]?):w'.ownsRow base e size v n D:=by
 refine⟨h.1,?_⟩
 rcases h.2 with F|⟨g,u,cur,A,G,J,j⟩
 ·exact .inl F
 ·exact .inr ⟨g,u,cur,A,G,by rw[hb g (by rw[A];rfl)];exact J,j⟩
set_option maxHeartbeats 4000000
structure RS where
 text:ByteArray
 field:Nat
 next:Nat
 wrong:Bool
def rC (s:RS):Array Value:= #[.string s.text,.int .i64 s.field,.int .i64 s.next,.bool s.wrong]
structure RI (r:Nat)(s:RS)(w:World):Prop where
 row:w.heap[r]? =some (.cells (rC s) 225 (0,0))
 fn:s.field≤s.next
 nt:s.next≤s.text.size
 small:s.text.size≤1000000000
def RDid (r:Nat)(s:RS)(w w':World):Prop:=RI r s w'∧Fr (fun j=>j=r) w w'
theorem RI.c0 {r:Nat}{s:RS}{w:World}(h:RI r s w):w.cell? ⟨r,0,none⟩=some (.string s.text):=cell_of_row _ _ _ _ 225 _ h.row
theorem RI.c1 {r:Nat}{s:RS}{w:World}(h:RI r s w):w.cell? ⟨r,1,none⟩=some (.int .i64 s.field):=cell_of_row _ _ _ _ 225 _ h.row
theorem RI.c2 {r:Nat}{s:RS}{w:World}(h:RI r s w):w.cell? ⟨r,2,none⟩=some (.int .i64 s.next):=cell_of_row _ _ _ _ 225 _ h.row
theorem RI.c3 {r:Nat}{s:RS}{w:World}(h:RI r s w):w.cell? ⟨r,3,none⟩=some (.bool s.wrong):=cell_of_row _ _ _ _ 225 _ h.row
theorem RI.fz {r:Nat}{s:RS}{w:World}(h:RI r s w)(k:Nat):w.frozen? ⟨r,k,none⟩=false:=frozen_of_row _ _ _ _ 225 h.row
theorem RI.low {r:Nat}{s:RS}{w w':World}(h:RI r s w)(hb:Below w.heap.size w w'):RI r s w':=⟨by rw[hb.block r (Array.getElem?_eq_some_iff.1 h.row).1];exact h.row,h.fn,h.nt,h.small⟩
theorem RDid.same {r:Nat}{s:RS}{w w':World}(h:RI r s w)(hb:Below w.heap.size w w'):RDid r s w w':=⟨h.low hb,Fr.below hb⟩
theorem RDid.then {r:Nat}{s u:RS}{w A D:World}(h:RDid r s w A)(j:RDid r u A D):RDid r u w D:=⟨j.1,h.2.trans' j.2⟩
def RS.refuse (s:RS):RS:={ s with wrong:=true }
def RS.begin (s:RS):RS:=if s.wrong then s else { s with field:=s.next }
def RS.bytes (s:RS)(n:Nat):RS×ByteArray:=
 if s.wrong then (s,⟨#[]⟩) else if s.text.size-s.next<n then ({ s with field:=s.next,wrong:=true },⟨#[]⟩) else ({ s with field:=s.next,next:=s.next+n },s.text.extract s.next (s.next+n))
theorem zP3 (t:ByteArray)(w:World)(j:t.size≤1000000000):Calls Tryz.prog 92 #[.string t] w fun e w'=>∃r,e=.returned (.pointer (some ⟨r,0,none⟩))∧w.heap.size≤r∧RI r ⟨t,0,0,false⟩ w'∧Below w.heap.size w w':=by
 go_enter Tryz.func92,Tryz.ntmps92
 go_wp2
 go_ret
 exact⟨_,rfl,Nat.le_refl _,⟨heap_alloc_new _ _,Nat.le_refl _,Nat.zero_le _,j⟩,(Below.refl _ _).alloc (Nat.le_refl _) _⟩
theorem zIS (r:Nat)(s:RS)(w:World)(h:RI r s w):Calls Tryz.prog 95 #[.pointer (some ⟨r,0,none⟩)] w fun e w'=>e=.returned (.int .i64 s.next)∧w'=w:=by
 have c2:=h.c2
 clear h
 go_enter Tryz.func95,Tryz.ntmps95
 go_wp2
 go_ret
 exact⟨rfl,rfl⟩
theorem zK0 (r:Nat)(s:RS)(w:World)(h:RI r s w):Calls Tryz.prog 97 #[.pointer (some ⟨r,0,none⟩)] w fun e w'=>e=.returned (.tuple #[.int .i64 s.field,.bool s.wrong])∧Below w.heap.size w w':=by
 have c1:=h.c1
 have c3:=h.c3
 clear h
 go_enter Tryz.func97,Tryz.ntmps97
 go_wp2_with fail
 go_quiet (fail)
 go_wp2
 go_ret2
 exact⟨rfl,below_drewN (Below.refl _ _) _⟩
theorem zBC (r:Nat)(s:RS)(w:World)(h:RI r s w):Calls Tryz.prog 132 #[.pointer (some ⟨r,0,none⟩)] w fun e w'=>e=.returned (.tuple #[])∧RDid r s.refuse w w':=by
 have c3:=h.c3
 have u:=h.fz 3
 have HD:Hid (RDid r s.refuse w (w.setCell ⟨r,3,none⟩ (.bool true))):=⟨⟨zH w r 3 _ _ _ _ h.row,h.fn,h.nt,h.small⟩,(Fr.refl (fun j=>j=r) w).set (g:=r) (.inl rfl) 3 _⟩
 clear h
 go_enter Tryz.func132,Tryz.ntmps132
 go_wp2
 go_end0
 exact⟨rfl,HD.out⟩
theorem zPl (r:Nat)(s:RS)(w:World)(h:RI r s w):Calls Tryz.prog 134 #[.pointer (some ⟨r,0,none⟩)] w fun e w'=>e=.returned (.bool (!s.wrong))∧RDid r s.begin w w':=by
 have c2:=h.c2
 have c1:=h.c1
 have c3:=h.c3
 have u:=h.fz 1
 cases hw:s.wrong with
 |true=>
  rw[hw]at c3
  have e:s.begin=s:=by unfold RS.begin;rw[hw];rfl
  rw[e]
  have H:Hid _:=h
  clear h e
  go_enter Tryz.func134,Tryz.ntmps134
  go_wp2
  go_ret
  exact⟨rfl,RDid.same H.out (Below.refl _ _)⟩
 |false=>
  rw[hw]at c3
  have e:s.begin={ s with field:=s.next }:=by unfold RS.begin;rw[hw];rfl
  rw[e]
  have HD:Hid (RDid r { s with field:=s.next } w (w.setCell ⟨r,1,none⟩ (.int .i64 s.next))):=⟨⟨zH w r 1 _ _ _ _ h.row,Nat.le_refl _,h.nt,h.small⟩,(Fr.refl (fun j=>j=r) w).set (g:=r) (.inl rfl) 1 _⟩
  clear h e
  go_enter Tryz.func134,Tryz.ntmps134
  go_wp2
  go_ret
  exact⟨rfl,HD.out⟩
theorem zOA (s:ByteArray)(w:World)(hs:s.size≤140737488351232):Calls Tryz.prog 133 #[.string s] w fun e w'=>e=.returned (.string s)∧Below w.heap.size w w':=by
 have H:Hid _:=zDt s w hs
 go_enter Tryz.func133,Tryz.ntmps133
 go_wp2_with fail
 refine Calls.mono H.out ?_
 rintro e j ⟨rfl,hb⟩
 have HB:Hid _:=hb
 clear hb
 go_wp2
 go_ret
 exact⟨rfl,HB.out⟩
theorem zIV (r:Nat)(s:RS)(p:Nat)(w:World)(h:RI r s w)(hp:p≤s.next):Calls Tryz.prog 94 #[.pointer (some ⟨r,0,none⟩),.int .i64 p] w fun e w'=>e=.returned (.string (s.text.extract p s.next))∧Below w.heap.size w w':=by
 have c0:=h.c0
 have c2:=h.c2
 have F:=h.nt
 have G:=h.small
 have A:r<w.heap.size:=(Array.getElem?_eq_some_iff.1 h.row).1
 obtain⟨t,f,n,b⟩:=s
 simp only at c0 c2 F G hp ⊢
 have H:Hid (∀V:World,Calls Tryz.prog 133 #[.string (t.extract p n)] V fun e w'=>e=.returned (.string (t.extract p n))∧Below V.heap.size V w'):=fun V=>zOA _ V (by rw[ByteArray.size_extract];omega)
 have R:(p:Int)≤(n:Int):=by omega
 have U:(n:Int)≤(t.size:Int):=by omega
 have Q:(0:Int)≤(p:Int):=by omega
 clear h
 go_enter Tryz.func94,Tryz.ntmps94
 go_wp2_with fail
 go_region_held3 (fun D=>D.cell? ⟨r,0,none⟩=some (.string t)∧D.cell? ⟨r,2,none⟩=some (.int .i64 n)) (go_keep) ((go_at_call 133;refine Calls.mono (H.out _) ?_;rintro e D ⟨rfl,u⟩;have j:Below w.heap.size w D:=(by first|exact u|exact ((Below.refl _ _).drew).trans u);have J:=(j.cell (p:=⟨r,0,none⟩) A).trans c0;have N:=(j.cell (p:=⟨r,2,none⟩) A).trans c2))
 have HB:Hid _:=j
 clear j u J N
 go_wp2
 go_ret
 exact⟨rfl,HB.out⟩
theorem RI.begin {r:Nat}{s:RS}{w w':World}(j:s.wrong=false)(h:RDid r s.begin w w'):RDid r { s with field:=s.next } w w':=by
 have e:s.begin={ s with field:=s.next }:=by unfold RS.begin;rw[j];rfl
 rw[e]at h;exact h
theorem zCy (r:Nat)(s:RS)(n:Nat)(w:World)(h:RI r s w)(hn:n≤1000000000):Calls Tryz.prog 96 #[.pointer (some ⟨r,0,none⟩),.int .i64 n] w fun e w'=>e=.returned (.string (s.bytes n).2)∧RDid r (s.bytes n).1 w w':=by
 have HB:Hid _:=zPl r s w h
 have aH:=h.nt
 have a9:=h.small
 cases hw:s.wrong with
 |true=>
  have G:s.bytes n=(s,⟨#[]⟩):=by unfold RS.bytes;rw[hw];rfl
  have e2:s.begin=s:=by unfold RS.begin;rw[hw];rfl
  rw[G]
  rw[hw,e2]at HB
  clear h G e2
  go_enter Tryz.func96,Tryz.ntmps96
  go_wp2_with fail
  refine Calls.mono HB.out ?_
  rintro e R ⟨rfl,J⟩
  have HD:Hid _:=J
  clear J
  go_wp2
  go_ret
  exact⟨rfl,HD.out⟩
 |false=>
  rw[hw]at HB
  by_cases N:s.text.size-s.next<n
  ·have G:s.bytes n=({ s with field:=s.next,wrong:=true },⟨#[]⟩):=by unfold RS.bytes;rw[hw];simp[N]
   rw[G]
   have hgt:(n:Int)>(s.text.size:Int)-(s.next:Int):=by omega
   have HW:Hid _:=hw
   clear h G
   go_enter Tryz.func96,Tryz.ntmps96
   go_wp2_with fail
   refine Calls.mono HB.out ?_
   rintro e R ⟨rfl,J⟩
   have u:=RI.begin HW.out J
   have c0:=u.1.c0
   have c2:=u.1.c2
   have A:Hid _:=u
   have a2:IntKind.i64.wrap ((s.text.size:Int)-(s.next:Int))=(s.text.size:Int)-(s.next:Int):=by rw[IntKind.wrap_i64];omega
   clear J u
   go_wp2_with fail
   go_quiet (fail)
   have HR:Hid (∀V:World,Below R.heap.size R V→Calls Tryz.prog 132 #[.pointer (some ⟨r,0,none⟩)] V fun e w'=>e=.returned (.tuple #[])∧RDid r { s with field:=s.next,wrong:=true } w w'):=fun V hV=>by
    have hI:=RI.low A.out.1 hV
    refine (zBC r _ V hI).mono ?_
    rintro e w' ⟨rfl,Z⟩
    exact⟨rfl,Z.1,(A.out.2.thenBelow hV).trans' Z.2⟩
   clear c0 c2
   go_wp2_with fail
   refine Calls.mono (HR.out _ (below_drewN (Below.refl _ _) _)) ?_
   rintro e w2 ⟨rfl,Z⟩
   have a6:Hid _:=Z
   clear Z
   go_wp2
   go_ret
   exact⟨rfl,a6.out⟩
  ·have G:s.bytes n=({ s with field:=s.next,next:=s.next+n },s.text.extract s.next (s.next+n)):=by unfold RS.bytes;rw[hw];simp[N]
   rw[G]
   have hgt:¬((n:Int)>(s.text.size:Int)-(s.next:Int)):=by omega
   have HW:Hid _:=hw
   clear h G
   go_enter Tryz.func96,Tryz.ntmps96
   go_wp2_with fail
   refine Calls.mono HB.out ?_
   rintro e R ⟨rfl,J⟩
   have u:=RI.begin HW.out J
   have c0:=u.1.c0
   have c1:=u.1.c1
   have c2:=u.1.c2
   have f2:=u.1.fz 2
   have A:Hid _:=u
   have a2:IntKind.i64.wrap ((s.text.size:Int)-(s.next:Int))=(s.text.size:Int)-(s.next:Int):=by rw[IntKind.wrap_i64];omega
   have aB:IntKind.i64.wrap ((s.next:Int)+(n:Int))=((s.next+n:Nat):Int):=by rw[IntKind.wrap_i64];omega
   clear J u
   go_wp2_with fail
   go_quiet (fail)
   have HV:Hid (Below R.heap.size R (R.drewN nq)):=below_drewN (Below.refl _ _) _
   obtain⟨V,hV⟩:∃V,R.drewN nq=V:=⟨_,rfl⟩
   rw[hV]at HV ⊢
   have D:=RI.low A.out.1 HV.out
   have d1:=D.c1
   have d2:=D.c2
   have g2:=D.fz 2
   obtain⟨X,U⟩:∃X,V.setCell ⟨r,2,none⟩ (.int .i64 ((s.next:Int)+(n:Int)))=X:=⟨_,rfl⟩
   have F:RI r { s with field:=s.next,next:=s.next+n } X:=by
    rw[←U]
    have Q:=zH V r 2 (.int .i64 ((s.next:Int)+(n:Int))) _ _ _ D.row
    rw[show (s.next:Int)+(n:Int)=((s.next+n:Nat):Int) by omega]at Q ⊢
    exact⟨Q,by simp,by show s.next+n≤s.text.size;omega,a9⟩
   have HS:Hid _:=zIV r _ s.next X F (by simp)
   have a5:Hid _:=F
   have a4:Hid (Fr (fun j=>j=r) w X):=by
    show Fr _ _ _
    rw[←U]
    exact (A.out.2.thenBelow HV.out).set (g:=r) (.inl rfl) 2 _
   have k1:=F.c1
   clear hV c0 c1 c2 f2 D F
   go_wp2_with fail
   try rw[U]
   refine Calls.mono HS.out ?_
   rintro e w3 ⟨rfl,W⟩
   have HF:Hid (RDid r { s with field:=s.next,next:=s.next+n } w w3):=⟨RI.low a5.out W,a4.out.thenBelow W⟩
   clear W
   go_wp2
   go_ret
   exact⟨rfl,HF.out⟩
def RS.word (s:RS)(t:ByteArray):RS:=if (s.bytes t.size).2=t then (s.bytes t.size).1 else (s.bytes t.size).1.refuse
theorem zN6 (r:Nat)(s:RS)(t:ByteArray)(w:World)(h:RI r s w)(U:t.size≤1000000000):Calls Tryz.prog 129 #[.pointer (some ⟨r,0,none⟩),.string t] w fun e w'=>e=.returned (.tuple #[])∧RDid r (s.word t) w w':=by
 have HB:Hid _:=zCy r s t.size w h U
 unfold RS.word
 obtain⟨G,u⟩:∃G,(s.bytes t.size).1=G:=⟨_,rfl⟩
 obtain⟨D,A⟩:∃D,(s.bytes t.size).2=D:=⟨_,rfl⟩
 rw[u,A]at HB ⊢
 clear h u A
 by_cases F:D=t
 ·subst F
  rw[if_pos rfl]
  go_enter Tryz.func129,Tryz.ntmps129
  go_wp2_with fail
  refine Calls.mono HB.out ?_
  rintro e N ⟨rfl,j⟩
  have HD:Hid _:=j
  clear j
  go_wp2
  go_end0
  exact⟨rfl,HD.out⟩
 ·rw[if_neg F]
  have W:(D.toList == t.toList)=false:=by
   rw[beq_eq_false_iff_ne,ByteArray.toList_eq,ByteArray.toList_eq]
   exact fun e=>F (ByteArray.ext (Array.toList_inj.1 e))
  go_enter Tryz.func129,Tryz.ntmps129
  go_wp2_with fail
  refine Calls.mono HB.out ?_
  rintro e N ⟨rfl,j⟩
  have R:Hid _:=zBC r G N j.1
  have HD:Hid _:=j
  clear j
  go_wp2_with fail
  refine Calls.mono R.out ?_
  rintro e X ⟨rfl,J⟩
  have Q:Hid _:=RDid.then HD.out J
  clear J
  go_wp2
  go_end0
  exact⟨rfl,Q.out⟩
theorem zPI (r:Nat)(s:RS)(w:World)(h:RI r s w):Calls Tryz.prog 140 #[.pointer (some ⟨r,0,none⟩)] w fun e w'=>e=.returned (.string (s.bytes (s.text.size-s.next)).2)∧RDid r (s.bytes (s.text.size-s.next)).1 w w':=by
 have c0:=h.c0
 have c2:=h.c2
 have G:=h.nt
 have J:=h.small
 obtain⟨m,D⟩:∃m,s.text.size-s.next=m:=⟨_,rfl⟩
 have HB:Hid (∀V:World,Below w.heap.size w V→Calls Tryz.prog 96 #[.pointer (some ⟨r,0,none⟩),.int .i64 m] V fun e w'=>e=.returned (.string (s.bytes m).2)∧RDid r (s.bytes m).1 w w'):=fun V A=>by
  refine (zCy r s m V (h.low A) (by omega)).mono ?_
  rintro e w' ⟨rfl,u⟩
  exact⟨rfl,u.1,(Fr.below A).trans' u.2⟩
 rw[D]
 have F:(s.text.size:Int)-(s.next:Int)=(m:Int):=by omega
 have N:IntKind.i64.wrap (m:Int)=(m:Int):=by rw[IntKind.wrap_i64];omega
 clear h D
 go_enter Tryz.func140,Tryz.ntmps140
 go_wp2_with fail
 refine zCY 11 (by kernel_rfl) (by kernel_rfl) ?_
 simp only[List.take_succ_cons,List.take_zero,List.drop_succ_cons,List.drop_zero]
 repeat still_step
 refine wpStill_nil ?_
 go_wp2_with fail
 refine Calls.mono (HB.out _ (by first|exact Below.refl _ _|exact (Below.refl _ _).drew)) ?_
 rintro e Q ⟨rfl,j⟩
 have HD:Hid _:=j
 clear j
 go_wp2
 go_ret
 exact⟨rfl,HD.out⟩
def vrF (t:ByteArray):Nat→Nat→Nat→Nat×Nat
 |_,_,0=>(0,0)
 |i,sum,k+1=>if h:i<t.size then
   if 128≤t[i].toNat then vrF t (i+1) (sum+t[i].toNat %128*128 ^ i) k
   else if 4294967295<sum+t[i].toNat %128*128 ^ i∨(t[i].toNat=0∧0<i) then (0,0) else (sum+t[i].toNat %128*128 ^ i,i+1)
  else (0,0)
def vrd (t:ByteArray):Nat×Nat:=vrF t 0 0 5
theorem zJB:∀y:Fin 256,bits .andNot .u8 ((y.val:Nat):Int) 128=((y.val%128:Nat):Int):=by decide+kernel
theorem zBM {a b m:Nat}(i:Nat)(j:2 ^ i=m)(h:a<m):a|||(b*m)=b*m+a:=by
 subst j
 rw[Nat.or_comm,Nat.mul_comm b]
 exact (Nat.two_pow_add_eq_or_of_lt h b).symm
theorem zOL (sum b i:Nat)(hs:sum<128 ^ i)(hb:b<256)(hi:i<5):bits .or .u64 (sum:Int) (IntKind.u64.wrap (IntKind.u64.wrap (bits .andNot .u8 (b:Int) 128)*2 ^ (7*i)))=((sum+b%128*128 ^ i:Nat):Int):=by
 have A:=zJB ⟨b,hb⟩
 simp only at A
 rw[A]
 have D:b%128<128:=Nat.mod_lt _ (by decide)
 obtain⟨c,u⟩:∃c,b%128=c:=⟨_,rfl⟩
 rw[u]at D ⊢
 have G:IntKind.u64.wrap ((c:Nat):Int)=(c:Int):=by rw[IntKind.wrap_u64];omega
 rw[G]
 have F:i=0∨i=1∨i=2∨i=3∨i=4:=by omega
 rcases F with rfl|rfl|rfl|rfl|rfl
 ·have j:IntKind.u64.wrap ((c:Int)*2 ^ (7*0))=((c*1:Nat):Int):=by rw[IntKind.wrap_u64];omega
  rw[j,u64_or_nat sum (c*1) (by omega) (by omega),zBM 0 (by decide) (by simpa using hs)]
  omega
 ·have j:IntKind.u64.wrap ((c:Int)*2 ^ (7*1))=((c*128:Nat):Int):=by rw[IntKind.wrap_u64];omega
  rw[j,u64_or_nat sum (c*128) (by omega) (by omega),zBM 7 (by decide) (by omega)]
  omega
 ·have j:IntKind.u64.wrap ((c:Int)*2 ^ (7*2))=((c*16384:Nat):Int):=by rw[IntKind.wrap_u64];omega
  rw[j,u64_or_nat sum (c*16384) (by omega) (by omega),zBM 14 (by decide) (by omega)]
  omega
 ·have j:IntKind.u64.wrap ((c:Int)*2 ^ (7*3))=((c*2097152:Nat):Int):=by rw[IntKind.wrap_u64];omega
  rw[j,u64_or_nat sum (c*2097152) (by omega) (by omega),zBM 21 (by decide) (by omega)]
  omega
 ·have j:IntKind.u64.wrap ((c:Int)*2 ^ (7*4))=((c*268435456:Nat):Int):=by rw[IntKind.wrap_u64];omega
  rw[j,u64_or_nat sum (c*268435456) (by omega) (by omega),zBM 28 (by decide) (by omega)]
  omega
theorem zPZ (sum b i:Nat)(hs:sum<128 ^ i):sum+b%128*128 ^ i<128 ^ (i+1):=by
 have j:b%128+1≤128:=Nat.mod_lt _ (by decide)
 have:=Nat.mul_le_mul_right (128 ^ i) j
 rw[Nat.pow_succ,Nat.mul_comm (128 ^ i) 128]
 rw[Nat.add_mul,Nat.one_mul]at this
 omega
theorem zOS (i:Nat)(hi:i≤5):128 ^ i≤34359738368:=by
 have:=Nat.pow_le_pow_right (show 0<128 by decide) hi
 simpa using this
theorem zPX (t:ByteArray)(w:World)(ht:t.size≤1000000000):Calls Tryz.prog 167 #[.string t] w fun e w'=>e=.returned (.tuple #[.int .u32 (vrd t).1,.int .i64 (vrd t).2])∧w'=w:=by
 by_cases h5:5<t.size
 ·have hI:(5:Int)<(t.size:Int):=by omega
  go_enter Tryz.func167,Tryz.ntmps167
  go_wp2
  go_loop [4,5,6,10] (fun sv _ _ Z=>∃(i sum:Nat),i≤5∧Z=.int .i64 i∧sv=.int .u64 sum∧sum<128 ^ i∧vrF t i sum (5-i)=vrd t) (fun _ _ _ Z=>5-(intOf Z).toNat)
  case atStart=>exact⟨0,0,by omega,rfl,rfl,by decide,rfl⟩
  case round=>
   obtain⟨i,sum,hi,rfl,rfl,hs,G⟩:=hrel
   by_cases a7:i<5
   ·have W:i<t.size:=by omega
    have U:i<5:=by omega
    obtain⟨b,hb⟩:∃b:Nat,t[i].toNat=b:=⟨_,rfl⟩
    have N:b<256:=by rw[←hb];exact t[i].toNat_lt
    have Q:=zOL sum b i hs N U
    have F:=zPZ sum b i hs
    have a8:=zOS (i+1) (by omega)
    have hk:5-i=(5-(i+1))+1:=by omega
    rw[hk,vrF,dif_pos W,hb]at G
    obtain⟨q,hq⟩:∃q,sum+b%128*128 ^ i=q:=⟨_,rfl⟩
    rw[hq]at Q F G
    have J:Hid _:=G
    have HS:Hid _:=F
    clear hk G hq F hs
    by_cases hp:128≤b
    ·have X:(b:Int)≥128:=by omega
     go_wp2
     go_round
     case rel=>exact⟨i+1,q,by omega,by go_num,rfl,HS.out,by have:=J.out;rw[if_pos hp]at this;exact this⟩
     case measure=>simp[intOf];omega
    ·have X:¬((b:Int)≥128):=by omega
     have a9:=HS.out
     by_cases hc:4294967295<q∨(b=0∧0<i)
     ·have D:Hid (vrd t=(0,0)):=by have:=J.out;rw[if_neg hp,if_pos hc]at this;exact this.symm
      by_cases a6:4294967295<q
      ·have A:(q:Int)>4294967295:=by omega
       go_wp2
       go_ret2
       exact⟨by rw[D.out];rfl,rfl⟩
      ·have A:¬((q:Int)>4294967295):=by omega
       have j:b=0:=by omega
       have R:(i:Int)>0:=by omega
       have u:((b:Int) == 0)=true:=by simp[j]
       clear j
       go_wp2
       go_ret2
       exact⟨by rw[D.out];rfl,rfl⟩
     ·have D:Hid (vrd t=(q,i+1)):=by have:=J.out;rw[if_neg hp,if_neg hc]at this;exact this.symm
      have A:¬((q:Int)>4294967295):=by omega
      have aA:IntKind.u32.wrap (q:Int)=(q:Int):=by rw[IntKind.wrap_u32];omega
      by_cases j:b=0
      ·have R:¬((i:Int)>0):=by omega
       have u:((b:Int) == 0)=true:=by simp[j]
       clear j
       go_wp2
       go_ret2
       exact⟨by rw[D.out];simp,rfl⟩
      ·have u:((b:Int) == 0)=false:=by simp;omega
       go_wp2
       go_ret2
       exact⟨by rw[D.out];simp,rfl⟩
   ·have ei:i=5:=by omega
    have D:Hid (vrd t=(0,0)):=by
     show _=_
     rw[←G]
     rw[ei];rfl
    subst ei
    go_wp2
    go_ret2
    exact⟨by rw[D.out];rfl,rfl⟩
 ·have hI:¬((5:Int)<(t.size:Int)):=by omega
  go_enter Tryz.func167,Tryz.ntmps167
  go_wp2
  go_loop [4,5,6,10] (fun sv _ _ Z=>∃(i sum:Nat),i≤t.size∧Z=.int .i64 i∧sv=.int .u64 sum∧sum<128 ^ i∧vrF t i sum (5-i)=vrd t) (fun _ _ _ Z=>t.size-(intOf Z).toNat)
  case atStart=>exact⟨0,0,by omega,rfl,rfl,by decide,rfl⟩
  case round=>
   obtain⟨i,sum,hi,rfl,rfl,hs,G⟩:=hrel
   by_cases a7:i<t.size
   ·have W:i<t.size:=by omega
    have U:i<5:=by omega
    obtain⟨b,hb⟩:∃b:Nat,t[i].toNat=b:=⟨_,rfl⟩
    have N:b<256:=by rw[←hb];exact t[i].toNat_lt
    have Q:=zOL sum b i hs N U
    have F:=zPZ sum b i hs
    have a8:=zOS (i+1) (by omega)
    have hk:5-i=(5-(i+1))+1:=by omega
    rw[hk,vrF,dif_pos W,hb]at G
    obtain⟨q,hq⟩:∃q,sum+b%128*128 ^ i=q:=⟨_,rfl⟩
    rw[hq]at Q F G
    have J:Hid _:=G
    have HS:Hid _:=F
    clear hk G hq F hs
    by_cases hp:128≤b
    ·have X:(b:Int)≥128:=by omega
     go_wp2
     go_round
     case rel=>exact⟨i+1,q,by omega,by go_num,rfl,HS.out,by have:=J.out;rw[if_pos hp]at this;exact this⟩
     case measure=>simp[intOf];omega
    ·have X:¬((b:Int)≥128):=by omega
     have a9:=HS.out
     by_cases hc:4294967295<q∨(b=0∧0<i)
     ·have D:Hid (vrd t=(0,0)):=by have:=J.out;rw[if_neg hp,if_pos hc]at this;exact this.symm
      by_cases a6:4294967295<q
      ·have A:(q:Int)>4294967295:=by omega
       go_wp2
       go_ret2
       exact⟨by rw[D.out];rfl,rfl⟩
      ·have A:¬((q:Int)>4294967295):=by omega
       have j:b=0:=by omega
       have R:(i:Int)>0:=by omega
       have u:((b:Int) == 0)=true:=by simp[j]
       clear j
       go_wp2
       go_ret2
       exact⟨by rw[D.out];rfl,rfl⟩
     ·have D:Hid (vrd t=(q,i+1)):=by have:=J.out;rw[if_neg hp,if_neg hc]at this;exact this.symm
      have A:¬((q:Int)>4294967295):=by omega
      have aA:IntKind.u32.wrap (q:Int)=(q:Int):=by rw[IntKind.wrap_u32];omega
      by_cases j:b=0
      ·have R:¬((i:Int)>0):=by omega
       have u:((b:Int) == 0)=true:=by simp[j]
       clear j
       go_wp2
       go_ret2
       exact⟨by rw[D.out];simp,rfl⟩
      ·have u:((b:Int) == 0)=false:=by simp;omega
       go_wp2
       go_ret2
       exact⟨by rw[D.out];simp,rfl⟩
   ·have ei:i=t.size:=by omega
    have D:Hid (vrd t=(0,0)):=by
     show _=_
     rw[←G]
     rw[ei]
     cases hk:5-t.size with
     |zero=>rfl
     |succ k=>rw[vrF,dif_neg (by omega)]
    subst ei
    go_wp2
    go_ret2
    exact⟨by rw[D.out];rfl,rfl⟩
end Go.Proofs.YtlopecgkiikdhaaGreatDoor
