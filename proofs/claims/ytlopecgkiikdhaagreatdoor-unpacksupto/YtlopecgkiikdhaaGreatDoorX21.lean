import Derived.Test.YtlopecgkiikdhaaGreatDoorX20
namespace Go.Proofs.YtlopecgkiikdhaaGreatDoor
open Go.RowKit
set_option maxRecDepth 100000
set_option maxHeartbeats 4000000
theorem zIJ (B n c:Nat)(a:Option Addr)(es:List (ByteArray×Nat))(w:World)(F:es.length=n)(R:w.ownsRow B 131 2 (.slice a n c) n (enV es))(hs:∀i,zM (es.take i)≤1000000)(a4:n≤1000):
 Calls Tryz.prog 50 #[.slice a n c] w fun e w'=>e=.returned (.int .i64 (zM es))∧w'=w:=by
 have U:Hid _:=fun i hi=>zC9 F R i hi
 have W:Hid _:=hs
 have N:Hid _:=F
 clear R hs F
 go_enter Tryz.func50,Tryz.ntmps50
 go_wp2_with fail
 go_loopw [3,4] (fun sv J wr=>∃i:Nat,i≤n∧J=.int .i64 i∧sv=.int .i64 (zM (es.take i))∧wr=w) (fun _ J _=>n-(intOf J).toNat)
 case atStart=>exact⟨0,by omega,rfl,by simp[zM],rfl⟩
 case round=>
  obtain⟨i,hi,rfl,rfl,rfl⟩:=hrel
  by_cases D:i<n
  ·have j:i<es.length:=by rw[N.out];exact D
   obtain⟨g,Z,a1,x0,y1⟩:=U.out i j
   subst Z
   have A:Hid _:=zBL es i j
   have Q:=W.out (i+1)
   rw[A.out]at Q
   obtain⟨t,u⟩:∃t,zM (es.take i)=t:=⟨_,rfl⟩
   obtain⟨y,G⟩:∃y,es[i].2=y:=⟨_,rfl⟩
   rw[u,G]at A Q
   rw[u]
   rw[G]at y1
   have a2:(i:Int)<(n:Int):=by omega
   clear x0 u G
   go_wp2
   go_roundw
   case rel=>exact⟨i+1,by omega,by go_num,by rw[A.out];go_num,by trivial⟩
   case measure=>simp[intOf];omega
  ·have X:i=n:=by omega
   subst X
   have u:es.take i=es:=List.take_of_length_le (by rw[N.out];exact Nat.le_refl _)
   rw[u]
   go_wp2
   go_ret
   exact⟨rfl,rfl⟩
def sdE (kt:Nat→Int)(rt t:ByteArray):Option (Nat×Nat):=
 if (rdE kt t).isSome then rdE kt t else if rt=⟨#[]⟩ then none else if (RS.on t).told.root=rt then none else some (9,4)
def zOm (kt:Nat→Int)(rt t:ByteArray)(w:World)(e:Ending)(w':World):Prop:=Below w.heap.size w w'∧(∀k p,sdE kt rt t=some (k,p)→zM4 k p e w')∧(sdE kt rt t=none→rdE kt t=none∧∃g,e=.returned (.tuple #[.pointer (some ⟨g,0,none⟩),.nilIface])∧zG5 (RS.on t).told (zX t) w.heap.size g w')
theorem zOG (kt:Nat→Int)(t rt:ByteArray)(w:World)(hG:Gd kt w)(ht:t.size≤140737488351232):Calls Tryz.prog 42 #[.string t,.string rt] w fun e w'=>zOm kt rt t w e w':=by
 have HR:Hid _:=zO3 kt t w hG ht
 clear hG ht
 go_enter Tryz.func42,Tryz.ntmps42
 go_wp2_with fail
 refine Calls.mono HR.out ?_
 rintro e w1 ⟨F,U,W⟩
 cases hE:rdE kt t with
 |some kp=>
  obtain⟨k,p⟩:=kp
  obtain⟨q,rfl,G⟩:=U k p hE
  have HB:Hid _:=F
  have R:Hid _:=G
  have u:Hid (sdE kt rt t=some (k,p)):=by show sdE kt rt t=_;unfold sdE;rw[hE];rfl
  clear U W F G
  go_wp2_with fail
  go_ret2
  exact⟨HB.out,fun k' p' j=>(by rw[u.out]at j;cases j;exact⟨q,rfl,R.out⟩),fun j=>(by rw[u.out]at j;cases j)⟩
 |none=>
  obtain⟨g,rfl,X⟩:=W hE
  have HB:Hid _:=F
  have HV:Hid _:=X
  have u:Hid (sdE kt rt t=if rt=⟨#[]⟩ then none else if (RS.on t).told.root=rt then none else some (9,4)):=by show sdE kt rt t=_;unfold sdE;rw[hE];rfl
  have c0:w1.cell? ⟨g,0,none⟩=some (.string (RS.on t).told.root):=by obtain⟨aE,kE,q,hg,_⟩:=X;exact cell_of_row _ _ _ _ 157 _ hg
  have J:Hid _:=hE
  clear U W F X hE
  obtain⟨ro,N⟩:∃x,(RS.on t).told.root=x:=⟨_,rfl⟩
  rw[N]at c0 u
  clear N
  by_cases D:rt=⟨#[]⟩
  ·rw[if_pos D]at u
   have G:=zS D
   go_wp2_with fail
   go_ret2
   exact⟨HB.out,fun k' p' j=>(by rw[u.out]at j;cases j),fun _=>⟨J.out,g,rfl,HV.out⟩⟩
  ·rw[if_neg D]at u
   have Z:¬rt.toList=[]:=fun e=>D (ByteArray.ext (by rw[ByteArray.toList_eq]at e;exact Array.toList_inj.1 e))
   have aA:rt.toList.isEmpty=false:=by simpa using Z
   by_cases A:ro=rt
   ·rw[if_pos A]at u
    have a1:=zS A
    go_wp2_with fail
    go_ret2
    exact⟨HB.out,fun k' p' j=>(by rw[u.out]at j;cases j),fun _=>⟨J.out,g,rfl,HV.out⟩⟩
   ·rw[if_neg A]at u
    have a1:=zW A
    go_wp2_with fail
    refine Calls.mono (zAk 9 4 w1) ?_
    rintro e w2 ⟨q,rfl,G,F⟩
    have R:Hid _:=G
    have Q:Hid _:=F
    clear G F
    go_wp2_with fail
    go_ret2
    exact⟨HB.out.trans (Q.out.mono HB.out.size),fun k' p' j=>(by rw[u.out]at j;cases j;exact⟨q,rfl,R.out⟩),fun j=>(by rw[u.out]at j;cases j)⟩
theorem zJc (b B n c K M C V:Nat)(a:Option Addr)(es:List (ByteArray×Nat))(w:World)(c2:w.cell? ⟨b,2,none⟩=some (.int .i64 K))(c3:w.cell? ⟨b,3,none⟩=some (.int .i64 M))(c4:w.cell? ⟨b,4,none⟩=some (.int .i64 C))(c5:w.cell? ⟨b,5,none⟩=some (.int .i64 V))
 (hc:w.cell? ⟨b,6,none⟩=some (.slice a n c)) (hn:es.length=n) (ho:w.ownsRow B 131 2 (.slice a n c) n (enV es)) (hs:∀i,zM (es.take i)≤100000) (Q:n≤1000) (hK:1≤K) (a8:K+M≤255) (hC:1≤C) (G:C≤64):
 Calls Tryz.prog 103 #[.pointer (some ⟨b,0,none⟩)] w fun e w'=>e=.returned (.int .i64 (nst (K*C) (zM es):Nat))∧Below w.heap.size w w':=by
 have R:0<K*C:=Nat.mul_pos hK hC
 have U:K*C≤100000:=Nat.le_trans (Nat.mul_le_mul (show K≤255 by omega) G) (by omega)
 have N:zM es≤100000:=by have:=hs es.length;rw[List.take_length]at this;exact this
 have j:b<w.heap.size:=block_lt_of_cell c2
 have H1:Hid (∀X:World,Below w.heap.size w X→Calls Tryz.prog 142 #[.pointer (some ⟨b,0,none⟩)] X fun e w'=>e=.returned (.int .i64 (zM es))∧Below X.heap.size X w'):=fun X hX=>zEq b B n c a es X ((hX.cell (p:=⟨b,6,none⟩) j).trans hc) hn (zI ho hX) (fun i=>Nat.le_trans (hs i) (by omega)) Q
 have W:Hid (∀X:World,Calls Tryz.prog 143 #[.agg #[.int .i64 K,.int .i64 M,.int .i64 C,.int .i64 V],.int .i64 (zM es)] X fun e w'=>e=.returned (.int .i64 (nst (K*C) (zM es):Nat))∧Below X.heap.size X w'):=fun X=>zAg K M C V (zM es) (K*C) X rfl R U N
 obtain⟨Z,J⟩:∃Z,nst (K*C) (zM es)=Z:=⟨_,rfl⟩
 rw[J]at W ⊢
 clear hc hn ho hs
 go_enter Tryz.func103,Tryz.ntmps103
 go_wp2_with fail
 go_region_held3 (fun F=>F.cell? ⟨b,2,none⟩=some (.int .i64 K)∧F.cell? ⟨b,3,none⟩=some (.int .i64 M)∧F.cell? ⟨b,4,none⟩=some (.int .i64 C)∧F.cell? ⟨b,5,none⟩=some (.int .i64 V)) (go_keep) (first|(go_at_call 142;refine Calls.mono (H1.out _ (by first|exact Below.refl _ _|exact (Below.refl _ _).drew)) ?_;rintro e w1 ⟨rfl,D⟩;have u:Below w.heap.size w w1:=(by first|exact D|exact ((Below.refl _ _).drew).trans D);have q2:=(u.cell (p:=⟨b,2,none⟩) j).trans c2;have q3:=(u.cell (p:=⟨b,3,none⟩) j).trans c3;have q4:=(u.cell (p:=⟨b,4,none⟩) j).trans c4;have q5:=(u.cell (p:=⟨b,5,none⟩) j).trans c5)|(go_at_call 143;refine Calls.mono (W.out _) ?_;rintro e F ⟨rfl,hb2⟩;have A:Below w.heap.size w F:=(u.trans (hb2.mono u.size));have u2:=(A.cell (p:=⟨b,2,none⟩) j).trans c2;have u3:=(A.cell (p:=⟨b,3,none⟩) j).trans c3;have u4:=(A.cell (p:=⟨b,4,none⟩) j).trans c4;have u5:=(A.cell (p:=⟨b,5,none⟩) j).trans c5))
 have HB:Hid _:=A
 clear u A D hb2 q2 q3 q4 q5 u2 u3 u4 u5
 go_wp2
 go_ret
 exact⟨rfl,HB.out⟩
theorem zNW (a b:Nat)(F A G rb D vb:ByteArray)(w:World)(a0:w.cell? ⟨a,0,none⟩=some (.string F))(U:w.cell? ⟨a,1,none⟩=some (.string A))(W:w.cell? ⟨a,7,none⟩=some (.string G))
 (X:w.cell? ⟨b,0,none⟩=some (.string rb)) (Z:w.cell? ⟨b,1,none⟩=some (.string D)) (b7:w.cell? ⟨b,7,none⟩=some (.string vb)):
 Calls Tryz.prog 74 #[.pointer (some ⟨a,0,none⟩),.pointer (some ⟨b,0,none⟩)] w fun e w'=>e=.returned (.bool (decide (F=rb∧A=D∧G=vb)))∧Below w.heap.size w w':=by
 by_cases j:F=rb
 ·have N:=zS j
  by_cases u:A=D
  ·have Q:=zS u
   by_cases J:G=vb
   ·have R:=zS J
    rw[decide_eq_true (show F=rb∧A=D∧G=vb from ⟨j,u,J⟩)]
    clear j u J
    go_enter Tryz.func74,Tryz.ntmps74
    go_wp2_with fail
    go_quiet (fail)
    go_wp2_with fail
    go_ret
    exact⟨rfl,below_drewN (Below.refl _ _) _⟩
   ·have R:=zW J
    rw[decide_eq_false (show ¬(F=rb∧A=D∧G=vb) from fun h=>J h.2.2)]
    clear j u J
    go_enter Tryz.func74,Tryz.ntmps74
    go_wp2_with fail
    go_quiet (fail)
    go_wp2_with fail
    go_ret
    exact⟨rfl,below_drewN (Below.refl _ _) _⟩
  ·have Q:=zW u
   rw[decide_eq_false (show ¬(F=rb∧A=D∧G=vb) from fun h=>u h.2.1)]
   clear j u
   go_enter Tryz.func74,Tryz.ntmps74
   go_wp2_with fail
   go_quiet (fail)
   go_wp2_with fail
   go_ret
   exact⟨rfl,below_drewN (Below.refl _ _) _⟩
 ·have N:=zW j
  rw[decide_eq_false (show ¬(F=rb∧A=D∧G=vb) from fun h=>j h.1)]
  clear j
  go_enter Tryz.func74,Tryz.ntmps74
  go_wp2_with fail
  go_quiet (fail)
  go_wp2_with fail
  go_ret
  exact⟨rfl,below_drewN (Below.refl _ _) _⟩
theorem zLx:(Tryz.prog.info? 4).map (fun i=>(i.zero,i.size,i.bytes))=some (some (.bool false),1,1):=by kernel_rfl
theorem zLw:(Tryz.prog.info? 212).map (fun i=>(i.zero,i.size,i.bytes))=some (some (.pointer none),1,8):=by kernel_rfl
def stC (vh un rd bl fi:Value):Array Value:= #[vh,un,rd,bl,fi]
def boF:Nat→Value:=fun _=>.bool false
def teF:Nat→Value:=fun _=>.string ⟨#[]⟩
def piF:Nat→Value:=fun _=>.pointer none
theorem zN8 (k g B K M C V num first:Nat)(aE:Option Addr)(kE:Nat)(es:List (ByteArray×Nat))(root lst lv:ByteArray)(vB un:Value)(w:World)
 (hk:w.heap[k]? =some (.cells (stC (.pointer none) un (.slice none 0 0) (.slice none 0 0) (.slice none 0 0)) 114 (0,0)))
 (hg:w.heap[g]? =some (.cells (zBE root lst K M C V (.slice aE es.length kE) lv num first vB) 157 (0,0))) (ho:w.ownsRow B 131 2 (.slice aE es.length kE) es.length (enV es)) (hl:es.length≤16) (b5:zM es≤4096)
 (hK:1≤K) (aV:K+M≤255) (hC:1≤C) (aU:C≤64) (cY:V≤16) (u ns:Nat) (aY:nst (K*C) (zM es)*(K+M)=u) (cG:u≤512) (aA:nst (K*C) (zM es)=ns):
 Calls Tryz.prog 73 #[.pointer (some ⟨k,0,none⟩),.pointer (some ⟨g,0,none⟩)] w fun e w'=>e=.returned (.tuple #[])∧∃p q f,w.heap.size≤p∧w.heap.size≤q∧w.heap.size≤f∧
  w'.heap[k]? =some (.cells (stC (.pointer (some ⟨g,0,none⟩)) un (.slice (some ⟨p,0,none⟩) V V) (.slice (some ⟨q,0,none⟩) u u) (.slice (some ⟨f,0,none⟩) ns ns)) 114 (0,0))∧Rw w' p V 4 boF∧Rw w' q u 9 teF∧Rw w' f ns 212 piF∧Fr (fun j=>j=k) w w':=by
 have bS:g<w.heap.size:=(Array.getElem?_eq_some_iff.1 hg).1
 have bU:k<w.heap.size:=(Array.getElem?_eq_some_iff.1 hk).1
 have bQ:g≠k:=fun e=>by have h1:=hg;rw[e,hk]at h1;simp at h1
 have cH:ns≤4096:=by rw[←aA];exact Nat.le_trans (zHz _ _ (Nat.mul_pos hK hC)) b5
 have bV:=run_make_row' (P:=Tryz.prog) 111 4 (.bool false) 1 Tryz.underlying111 zLx rfl .i64 .i64 V (by omega) (by omega)
 have bW:=run_make_row' (P:=Tryz.prog) 22 9 (.string ⟨#[]⟩) 16 Tryz.underlying22 zAl rfl .i64 .i64 u (by omega) (by omega)
 have d0:=run_make_row' (P:=Tryz.prog) 112 212 (.pointer none) 8 Tryz.underlying112 zLw rfl .i64 .i64 ns (by omega) (by omega)
 have R:Hid (∀X:World,Fr (fun j=>j=k) w X→X.heap[g]? =some (.cells (zBE root lst K M C V (.slice aE es.length kE) lv num first vB) 157 (0,0))∧X.ownsRow B 131 2 (.slice aE es.length kE) es.length (enV es)):=fun X hX=>⟨by rw[hX.old g bS bQ];exact hg,zD ho (fun q hq=>hX.old q (zG ho q hq) (fun e=>by
  obtain⟨cur,hc⟩:=zB ho q hq
  have h2:=hk
  rw[←e,hc]at h2;simp at h2))⟩
 have H1:Hid (∀X:World,Fr (fun j=>j=k) w X→Calls Tryz.prog 102 #[.pointer (some ⟨g,0,none⟩)] X fun e w'=>e=.returned (.int .i64 u)∧Below X.heap.size X w'):=fun X hX=>by
  obtain⟨F,aB⟩:=R.out X hX
  rw[←aY]
  exact zHW g B es.length kE K M C V aE es X (cell_of_row _ _ _ _ 157 _ F) (cell_of_row _ _ _ _ 157 _ F) (cell_of_row _ _ _ _ 157 _ F) (cell_of_row _ _ _ _ 157 _ F) (cell_of_row _ _ _ _ 157 _ F) rfl aB (fun i=>Nat.le_trans (zQ _ i) (by omega)) (by omega) hK aV hC aU
 have H2:Hid (∀X:World,Fr (fun j=>j=k) w X→Calls Tryz.prog 103 #[.pointer (some ⟨g,0,none⟩)] X fun e w'=>e=.returned (.int .i64 ns)∧Below X.heap.size X w'):=fun X hX=>by
  obtain⟨F,aB⟩:=R.out X hX
  rw[←aA]
  exact zJc g B es.length kE K M C V aE es X (cell_of_row _ _ _ _ 157 _ F) (cell_of_row _ _ _ _ 157 _ F) (cell_of_row _ _ _ _ 157 _ F) (cell_of_row _ _ _ _ 157 _ F) (cell_of_row _ _ _ _ 157 _ F) rfl aB (fun i=>Nat.le_trans (zQ _ i) (by omega)) (by omega) hK aV hC aU
 obtain⟨p,hp⟩:∃p,w.heap.size=p:=⟨_,rfl⟩
 have a0:w.cell? ⟨k,0,none⟩=some (.pointer none):=cell_of_row _ _ _ _ 114 _ hk
 have b0:=frozen_of_row w k 0 _ 114 hk
 obtain⟨G,N⟩:∃X,w.setCell ⟨k,0,none⟩ (.pointer (some ⟨g,0,none⟩))=X:=⟨_,rfl⟩
 have k0:G.heap[k]? =some (.cells (stC (.pointer (some ⟨g,0,none⟩)) un (.slice none 0 0) (.slice none 0 0) (.slice none 0 0)) 114 (0,0)):=by rw[←N];exact zH _ _ _ _ _ _ _ hk
 have f0:Fr (fun j=>j=k) w G:=by rw[←N];exact (Fr.refl (fun j=>j=k) w).set (g:=k) (.inl rfl) _ _
 have s0:G.heap.size=p:=by rw[←N,←hp];simp[World.setCell]
 have v5:G.cell? ⟨g,5,none⟩=some (.int .i64 V):=cell_of_row _ _ _ _ 157 _ (R.out G f0).1
 obtain⟨X1,a8⟩:∃X,G.alloc (.cells (madeCells #[.bool false] V) 4)=X:=⟨_,rfl⟩
 have p1:Rw X1 p V 4 boF:=by rw[←a8,←s0];exact Rw.made G V 4 (.bool false)
 have b1:Below G.heap.size G X1:=by rw[←a8];exact (Below.refl _ _).alloc (Nat.le_refl _) _
 have k1:X1.heap[k]? =_:=(b1.block k (by rw[s0,←hp];exact bU)).trans k0
 have f1:=f0.thenBelow b1
 have a2:X1.cell? ⟨k,2,none⟩=some (.slice none 0 0):=cell_of_row _ _ _ _ 114 _ k1
 have b2:=frozen_of_row X1 k 2 _ 114 k1
 obtain⟨X2,Q⟩:∃X,X1.setCell ⟨k,2,none⟩ (.slice (some ⟨p,0,none⟩) V V)=X:=⟨_,rfl⟩
 have k2:X2.heap[k]? =some (.cells (stC (.pointer (some ⟨g,0,none⟩)) un (.slice (some ⟨p,0,none⟩) V V) (.slice none 0 0) (.slice none 0 0)) 114 (0,0)):=by rw[←Q];exact zH _ _ _ _ _ _ _ k1
 have f2:Fr (fun j=>j=k) w X2:=by rw[←Q];exact f1.set (.inl rfl) _ _
 have p2:Rw X2 p V 4 boF:=by rw[←Q];show (World.heap _)[p]? =_;rw[zC _ _ _ _ _ (by omega)];exact p1
 have U:Hid _:=k2
 have aL:Hid _:=f2
 have Z:Hid (Rw X2 p V 4 boF):=p2
 have aN:Hid _:=H1.out X2 f2
 have aP:Hid (w.heap.size=p):=hp
 clear hk hg ho k0 f0 p1 b1 k1 f1 k2 f2 p2 aY aA H1
 go_enter Tryz.func73,Tryz.ntmps73
 go_wp2_with fail
 refine Calls.mono aN.out ?_
 rintro e w3 ⟨rfl,J⟩
 clear N a0 b0 v5 a8 a2 b2 Q bV s0 aN
 obtain⟨q,hq⟩:∃q,w3.heap.size=q:=⟨_,rfl⟩
 have k3:w3.heap[k]? =_:=(J.block k (Array.getElem?_eq_some_iff.1 U.out).1).trans U.out
 have f3:=aL.out.thenBelow J
 have p3:=Rw.below Z.out J (Rw.lt Z.out)
 obtain⟨X3,a9⟩:∃X,w3.alloc (.cells (madeCells #[.string ⟨#[]⟩] u) 9)=X:=⟨_,rfl⟩
 have q4:Rw X3 q u 9 teF:=by rw[←a9,←hq];exact Rw.made w3 u 9 (.string ⟨#[]⟩)
 have b4:Below w3.heap.size w3 X3:=by rw[←a9];exact (Below.refl _ _).alloc (Nat.le_refl _) _
 have k4:X3.heap[k]? =_:=(b4.block k (Array.getElem?_eq_some_iff.1 k3).1).trans k3
 have f4:=f3.thenBelow b4
 have p4:=p3.below b4 p3.lt
 have a4:X3.cell? ⟨k,3,none⟩=some (.slice none 0 0):=cell_of_row _ _ _ _ 114 _ k4
 have c4:=frozen_of_row X3 k 3 _ 114 k4
 have b3:k≠q:=by have h1:=(Array.getElem?_eq_some_iff.1 k3).1;omega
 have aZ:k≠p:=by have h1:=aP.out;omega
 obtain⟨X4,D⟩:∃X,X3.setCell ⟨k,3,none⟩ (.slice (some ⟨q,0,none⟩) u u)=X:=⟨_,rfl⟩
 have k5:X4.heap[k]? =some (.cells (stC (.pointer (some ⟨g,0,none⟩)) un (.slice (some ⟨p,0,none⟩) V V) (.slice (some ⟨q,0,none⟩) u u) (.slice none 0 0)) 114 (0,0)):=by rw[←D];exact zH _ _ _ _ _ _ _ k4
 have f5:Fr (fun j=>j=k) w X4:=by rw[←D];exact f4.set (.inl rfl) _ _
 have p5:Rw X4 p V 4 boF:=by rw[←D];exact p4.other _ _ aZ.symm
 have q5:Rw X4 q u 9 teF:=by rw[←D];exact q4.other _ _ b3.symm
 have aO:Hid _:=H2.out X4 f5
 have bF:Hid (w.heap.size≤q):=by rw[←hq];exact f3.size
 have W:Hid _:=k5
 have aM:Hid _:=f5
 have a1:Hid (Rw X4 p V 4 boF):=p5
 have a5:Hid (Rw X4 q u 9 teF):=q5
 clear J k3 f3 p3 q4 b4 k4 f4 p4 k5 f5 p5 q5 H2 U aL Z
 go_wp2_with fail
 refine Calls.mono aO.out ?_
 rintro e w6 ⟨rfl,A⟩
 clear a4 c4 a9 D hq bW aO
 obtain⟨f,hf⟩:∃f,w6.heap.size=f:=⟨_,rfl⟩
 have k6:w6.heap[k]? =_:=(A.block k (Array.getElem?_eq_some_iff.1 W.out).1).trans W.out
 have f6:=aM.out.thenBelow A
 have p6:=Rw.below a1.out A (Rw.lt a1.out)
 have q6:=Rw.below a5.out A (Rw.lt a5.out)
 obtain⟨X6,aW⟩:∃X,w6.alloc (.cells (madeCells #[.pointer none] ns) 212)=X:=⟨_,rfl⟩
 have t7:Rw X6 f ns 212 piF:=by rw[←aW,←hf];exact Rw.made w6 ns 212 (.pointer none)
 have b7:Below w6.heap.size w6 X6:=by rw[←aW];exact (Below.refl _ _).alloc (Nat.le_refl _) _
 have k7:X6.heap[k]? =_:=(b7.block k (Array.getElem?_eq_some_iff.1 k6).1).trans k6
 have f7:=f6.thenBelow b7
 have p7:=p6.below b7 p6.lt
 have q7:=q6.below b7 q6.lt
 have a7:X6.cell? ⟨k,4,none⟩=some (.slice none 0 0):=cell_of_row _ _ _ _ 114 _ k7
 have c7:=frozen_of_row X6 k 4 _ 114 k7
 have bT:k≠f:=by have h1:=(Array.getElem?_eq_some_iff.1 k6).1;omega
 obtain⟨X7,aX⟩:∃X,X6.setCell ⟨k,4,none⟩ (.slice (some ⟨f,0,none⟩) ns ns)=X:=⟨_,rfl⟩
 have HE:Hid (∃p q f,w.heap.size≤p∧w.heap.size≤q∧w.heap.size≤f∧X7.heap[k]? =some (.cells (stC (.pointer (some ⟨g,0,none⟩)) un (.slice (some ⟨p,0,none⟩) V V) (.slice (some ⟨q,0,none⟩) u u) (.slice (some ⟨f,0,none⟩) ns ns)) 114 (0,0))∧Rw X7 p V 4 boF∧Rw X7 q u 9 teF∧Rw X7 f ns 212 piF∧Fr (fun j=>j=k) w X7):=by
  rw[←aX]
  exact⟨p,q,f,Nat.le_of_eq aP.out,bF.out,by rw[←hf];exact f6.size,zH _ _ _ _ _ _ _ k7,p7.other _ _ aZ.symm,q7.other _ _ b3.symm,t7.other _ _ bT.symm,f7.set (.inl rfl) _ _⟩
 clear A k6 f6 p6 q6 t7 b7 k7 f7 p7 q7 W aM a1 a5
 go_wp2_with fail
 go_end0
 exact⟨rfl,by first|exact HE.out|(rw[aX];exact HE.out)⟩
def laid (bl:Nat→ByteArray)(first c:Nat)(S:Nat→ByteArray):Nat→ByteArray:=fun i=>if first≤i∧i<first+c then S (i-first) else bl i
theorem zB8 (X:World)(q A first dl d G c U:Nat)(bl S:Nat→ByteArray)(ty:TypeId)(Z:Rw X q A 9 (tX bl))(hb:Rw X G c 9 (tX S))(J:first+c≤A)(a4:c≤dl):
 ∃Q,(Builtin.copy_ #[22,22] ty #[.slice (some ⟨q,first,none⟩) dl d,.slice (some ⟨G,0,none⟩) c U]).run Tryz.prog X=.ok (.int .i64 c) Q∧Rw Q q A 9 (tX (laid bl first c S))∧Fr (fun j=>j=q) X Q:=by
 have u:((zCl c (tX S)).toList).length=c:=by rw[Array.length_toList,zAr]
 have F:∀j v,(zCl c (tX S)).toList[j]? =some v→X.cell? ((⟨G,0,none⟩:Addr).add j)=some v:=fun j v N=>by
  rw[Array.getElem?_toList]at N
  have e1:(⟨G,0,none⟩:Addr).add j=⟨G,j,none⟩:=by simp[Addr.add];omega
  rw[e1,cell_of_row X G j _ 9 _ hb]
  exact N
 have D:=run_copy_row (P:=Tryz.prog) X 22 22 ty 9 q first dl d ⟨G,0,none⟩ c U (zCl A (tX bl)) 9 (zCl c (tX S)).toList Tryz.underlying22 (by
  have h:=zAl
  cases hi:Tryz.prog.info? 9 with
  |none=>rw[hi]at h;cases h
  |some i=>rw[hi]at h;simp at h;simp[h.2.1]) Z (by rw[u];exact (Nat.min_eq_left (by omega)).symm) F (by rw[u,zAr];exact J) (fun v N=>by
   rw[Array.mem_toList_iff,Array.mem_iff_getElem?]at N
   obtain⟨i,hi⟩:=N
   by_cases h:i<c
   ·rw[zy c _ i h]at hi;cases hi;rfl
   ·rw[zAI c _ i h]at hi;cases hi)
 rw[u]at D
 refine⟨_,D,?_,?_⟩
 ·show (World.heap _)[q]? =_
  rw[setRow_heap X q _ _ 9 (0,0) Z]
  congr 2
  apply Array.ext_getElem?
  intro i
  rw[List.getElem?_toArray,List.getElem?_append,List.getElem?_append,List.length_append,List.length_take,Array.length_toList,zAr,u,Nat.min_eq_left (by omega)]
  by_cases hi:i<A
  ·rw[zy A _ i hi]
   by_cases R:i<first
   ·rw[if_pos (by omega),if_pos R,List.getElem?_take_of_lt R,Array.getElem?_toList,zy A _ i hi]
    simp only[tX,laid]
    rw[if_neg (by omega)]
   ·by_cases W:i<first+c
    ·rw[if_pos W,if_neg R,Array.getElem?_toList,zy c _ _ (by omega)]
     simp only[tX,laid]
     rw[if_pos (by omega)]
    ·rw[if_neg W,List.getElem?_drop,Array.getElem?_toList,show first+c+(i-(first+c))=i by omega,zy A _ i hi]
     simp only[tX,laid]
     rw[if_neg (by omega)]
  ·rw[zAI A _ i hi,if_neg (by omega),List.getElem?_drop,Array.getElem?_toList,zAI A _ _ (by omega)]
 ·exact⟨by simp[World.setRow],fun j _ hj=>setRow_other X q j _ hj,⟨rfl,rfl,rfl⟩⟩
def zE9 (q cn first:Nat):Value:=.slice (some (if cn=first then ⟨q,0,none⟩ else ⟨q,first,none⟩)) (cn-first) (cn-first)
theorem zOE (W:World):(sizeOf 9).run Tryz.prog W=.ok 1 W:=by
 have h:=zAl
 cases hi:Tryz.prog.info? 9 with
 |none=>rw[hi]at h;cases h
 |some i=>rw[hi]at h;simp at h;simp[sizeOf,typeInfo,hi,h.2.1]
theorem zDe (W:World)(q j first:Nat)(hf:first≤j):(Instr.slice 22 (.slice (some ⟨q,0,none⟩) j j) (some (.int .i64 first)) none none).run Tryz.prog W=.ok (zE9 q j first) W:=by
 have u:Tryz.prog.elem 22=9:=by simp[Program.elem,Tryz.underlying22]
 rw[run_slice_l W 22 _ _ _ (by rw[u];exact Tryz.underlying22) .i64 _ (by omega) (by omega),u,zOE]
 unfold zE9
 rcases Nat.lt_or_ge first j with D|A
 ·rw[if_neg (by omega)]
  cases first with
  |zero=>simp[Result.andThen,sliced,Addr.add]
  |succ m=>simp[Result.andThen,sliced,Addr.add];omega
 ·have e:j=first:=by omega
  subst e
  simp[Result.andThen,sliced]
theorem zDu (X:World)(q u first F c G:Nat)(bl S:Nat→ByteArray)(J:TypeId)(N:Rw X q u 9 (tX bl))(hb:Rw X F c 9 (tX S))(D:first+c≤u):
 ∃A,(Builtin.copy_ #[22,22] J #[zE9 q u first,.slice (some ⟨F,0,none⟩) c G]).run Tryz.prog X=.ok (.int .i64 c) A∧Rw A q u 9 (tX (laid bl first c S))∧Fr (fun j=>j=q) X A:=by
 unfold zE9
 by_cases e:u=first
 ·obtain⟨A,Q,R,U⟩:=zB8 X q u 0 (u-first) (u-first) F c G bl S J N hb (by omega) (by omega)
  rw[if_pos e]
  refine⟨A,Q,R.to (fun j _=> ?_),U⟩
  unfold tX laid
  rw[if_neg (by omega),if_neg (by omega)]
 ·rw[if_neg e]
  exact zB8 X q u first (u-first) (u-first) F c G bl S J N hb D (by omega)
theorem zEP {j:Array Oper}{o:Oper}{a:Act}{w:World}{K:Act→World→Prop}{Q:Exit→Act→World→Prop}{E:Prop}(F:o.guard=none)(x y:Operand)(t:TypeId)(A:o.op=.call { callee:=.builtin .copy,args:= #[x,y],argTypes:= #[t,t] })
 (u v r:Value) (J:a.eval x=u) (N:a.eval y=v) (w':World) (G:(Builtin.copy_ #[t,t] o.type #[u,v]).run Tryz.prog w=.ok r w') (D:K (a.put o.dst r) w'):if Region.wanted o (yielded j a.tmps)=true then Oper.wp Tryz.prog o a w K Q else E:=by
 rw[if_pos (show Region.wanted o (yielded j a.tmps)=true by simp[Region.wanted,F])]
 unfold Oper.wp
 simp[execOp,A,resolve,invoke,builtin,J,N,G,Result.andThen]
 exact D
def LT.ns (l:LT):Nat:=nst (l.K*l.C) (zM l.es)
def boR (rd:Nat→Bool):Nat→Value:=fun i=>.bool (rd i)
def Head2 (B g:Nat)(T:TT)(w:World):Prop:=∃aE kE num first vB,w.heap[g]? =some (.cells (zBE T.root T.lst T.L.K T.L.M T.L.C T.L.V (.slice aE T.L.es.length kE) T.lv num first vB) 157 (0,0))∧w.ownsRow B 131 2 (.slice aE T.L.es.length kE) T.L.es.length (enV T.L.es)
structure SS (B k g p q f:Nat)(T:TT)(un:Value)(rd:Nat→Bool)(bl:Nat→ByteArray)(w:World):Prop where
 row:w.heap[k]? =some (.cells (stC (.pointer (some ⟨g,0,none⟩)) un (.slice (some ⟨p,0,none⟩) T.L.V T.L.V) (.slice (some ⟨q,0,none⟩) T.L.cnt T.L.cnt) (.slice (some ⟨f,0,none⟩) T.L.ns T.L.ns)) 114 (0,0))
 hd:Head2 B g T w
 rdR:Rw w p T.L.V 4 (boR rd)
 blR:Rw w q T.L.cnt 9 (tX bl)
 fiR:Rw w f T.L.ns 212 piF
def zKP (a b:Int)(e:Ending)(w:World):Prop:=∃z,e=.returned (.iface 150 (.pointer (some ⟨z,0,none⟩)))∧w.heap[z]? =some (.cells #[.int .i64 a,.int .i64 b,.nilIface] 152 (0,0))
theorem zPO (B k g p q f g2 qb c num first pl:Nat)(T u:TT)(un bW:Value)(rd:Nat→Bool)(bl S:Nat→ByteArray)(w:World)(h:SS B k g p q f T un rd bl w)
 (h2:w.heap[g2]? =some (.cells (zBE u.root u.lst u.L.K u.L.M u.L.C u.L.V bW u.lv num first (.slice (some ⟨qb,0,none⟩) c c)) 157 (0,0))) (hS:Rw w qb c 9 (tX S))
 (b9:T.root=u.root∧T.lst=u.lst∧T.lv=u.lv→num<T.L.V∧first+c≤T.L.cnt):
 Calls Tryz.prog 43 #[.pointer (some ⟨k,0,none⟩),.int .i64 pl,.pointer (some ⟨g2,0,none⟩)] w fun e w'=>
  (¬(T.root=u.root∧T.lst=u.lst∧T.lv=u.lv)∧zKP 12 pl e w'∧Below w.heap.size w w')∨
  ((T.root=u.root∧T.lst=u.lst∧T.lv=u.lv)∧rd num=true∧zKP 13 pl e w'∧Below w.heap.size w w')∨
  ((T.root=u.root∧T.lst=u.lst∧T.lv=u.lv)∧rd num=false∧e=.returned .nilIface∧SS B k g p q f T un (zAx rd num true) (laid bl first c S) w'∧Fr (fun j=>j=p∨j=q) w w'):=by
 have aO:k<w.heap.size:=(Array.getElem?_eq_some_iff.1 h.row).1
 have Z:g2<w.heap.size:=(Array.getElem?_eq_some_iff.1 h2).1
 obtain⟨aE,kE,aF,J,bA,a1,a8⟩:=h.hd
 have bM:g<w.heap.size:=(Array.getElem?_eq_some_iff.1 a1).1
 have a0:w.cell? ⟨k,0,none⟩=some (.pointer (some ⟨g,0,none⟩)):=cell_of_row _ _ _ _ 114 _ h.row
 have aZ:Hid (∀X:World,Below w.heap.size w X→Calls Tryz.prog 74 #[.pointer (some ⟨g,0,none⟩),.pointer (some ⟨g2,0,none⟩)] X fun e w'=>e=.returned (.bool (decide (T.root=u.root∧T.lst=u.lst∧T.lv=u.lv)))∧Below X.heap.size X w'):=fun X hX=>by
  have A:=(hX.block g bM).trans a1
  have e2:=(hX.block g2 Z).trans h2
  exact zNW g g2 T.root T.lst T.lv u.root u.lst u.lv X (cell_of_row _ _ _ _ 157 _ A) (cell_of_row _ _ _ _ 157 _ A) (cell_of_row _ _ _ _ 157 _ A) (cell_of_row _ _ _ _ 157 _ e2) (cell_of_row _ _ _ _ 157 _ e2) (cell_of_row _ _ _ _ 157 _ e2)
 have HK:Hid (∀X:World,Below w.heap.size w X→X.cell? ⟨k,0,none⟩=some (.pointer (some ⟨g,0,none⟩))):=fun X hX=>(hX.cell (p:=⟨k,0,none⟩) aO).trans a0
 obtain⟨sm,aQ⟩:∃x,decide (T.root=u.root∧T.lst=u.lst∧T.lv=u.lv)=x:=⟨_,rfl⟩
 rw[aQ]at aZ
 have H:Hid _:=h
 have H2:Hid _:=h2
 have HS:Hid (Rw w qb c 9 (tX S)):=hS
 have bJ:Hid _:=b9
 have aA:Hid _:=aQ
 clear h h2 hS a1 a8 b9 aQ
 go_enter Tryz.func43,Tryz.ntmps43
 go_wp2_with fail
 go_region_held3 (fun w2=>w2.cell? ⟨k,0,none⟩=some (.pointer (some ⟨g,0,none⟩))) (go_keep) ((go_at_call 74;refine Calls.mono (aZ.out _ (by first|exact Below.refl _ _|exact (Below.refl _ _).drew)) ?_;rintro e w1 ⟨rfl,aM⟩;have aL:Below w.heap.size w w1:=(by first|exact aM|exact ((Below.refl _ _).drew).trans aM);have q0:=HK.out w1 aL))
 have D:Hid _:=aL
 clear aM aL q0 a0
 cases hsv:sm with
 |false=>
  go_wp2_with fail
  refine Calls.mono (zAk 12 _ w1) ?_
  rintro e w2 ⟨z,rfl,hz,hB⟩
  have HZ:Hid _:=hz
  have aG:Hid _:=hB
  clear hz hB
  go_wp2_with fail
  go_ret
  exact .inl ⟨of_decide_eq_false (aA.out.trans hsv),⟨z,rfl,HZ.out⟩,D.out.trans (aG.out.mono D.out.size)⟩
 |true=>
  have aD:T.root=u.root∧T.lst=u.lst∧T.lv=u.lv:=of_decide_eq_true (aA.out.trans hsv)
  have R:Hid (T.root=u.root∧T.lst=u.lst∧T.lv=u.lv):=aD
  clear aD
  obtain⟨bS,b2⟩:=bJ.out R.out
  have a9:=(D.out.block k aO).trans H.out.row
  have a7:=(D.out.block g2 Z).trans H2.out
  have a2:Rw w1 p T.L.V 4 (boR rd):=Rw.below H.out.rdR D.out (Rw.lt H.out.rdR)
  have k2:w1.cell? ⟨k,2,none⟩=some (.slice (some ⟨p,0,none⟩) T.L.V T.L.V):=cell_of_row _ _ _ _ 114 _ a9
  have n8:w1.cell? ⟨g2,8,none⟩=some (.int .i64 num):=cell_of_row _ _ _ _ 157 _ a7
  have p8:w1.cell? ⟨p,num,none⟩=some (.bool (rd num)):=a2.cell num bS
  have bQ:k≠p:=fun e=>by have A:=a9;rw[e]at A;rw[show w1.heap[p]? =_ from a2]at A;simp at A
  have bO:g2≠p:=fun e=>by have A:=a7;rw[e]at A;rw[show w1.heap[p]? =_ from a2]at A;simp at A
  have cC:Hid _:=a9
  have cB:Hid _:=a7
  have bE:Hid (Rw w1 p T.L.V 4 (boR rd)):=a2
  obtain⟨rv,aP⟩:∃x,rd num=x:=⟨_,rfl⟩
  rw[aP]at p8
  have aY:Hid _:=aP
  clear a9 a7 a2 aP
  cases rv with
  |true=>
   go_wp2_with fail
   go_quiet (fail)
   go_wp2_with fail
   refine Calls.mono (zAk 13 _ _) ?_
   rintro e w2 ⟨z,rfl,hz,hB⟩
   have HZ:Hid _:=hz
   have aG:Hid (Below w.heap.size w w2):=(below_drewN D.out _).trans (hB.mono (below_drewN D.out _).size)
   clear hz hB
   go_wp2_with fail
   go_ret
   exact .inr (.inl ⟨R.out,aY.out,⟨z,rfl,HZ.out⟩,aG.out⟩)
  |false=>
   go_wp2_with fail
   go_quiet (fail)
   obtain⟨W2,G⟩:∃X,w1.drewN nq=X:=⟨_,rfl⟩
   rw[G]
   have aH:Hid (Below w.heap.size w W2):=by show Below _ _ _;rw[←G];exact below_drewN D.out _
   replace k2:W2.cell? ⟨k,2,none⟩=some (.slice (some ⟨p,0,none⟩) T.L.V T.L.V):=by rw[←G];exact k2
   replace n8:W2.cell? ⟨g2,8,none⟩=some (.int .i64 num):=by rw[←G];exact n8
   replace p8:W2.cell? ⟨p,num,none⟩=some (.bool false):=by rw[←G];exact p8
   have z8:W2.frozen? ⟨p,num,none⟩=false:=by rw[←G];exact bE.out.free num
   clear G
   go_wp2_with fail
   go_region
   clear k2 n8 p8 z8
   obtain⟨N,U⟩:∃X,(W2.setCell ⟨p,num,none⟩ (.bool true)).drew=X:=⟨_,rfl⟩
   rw[U]
   have aU:Hid (Fr (fun j=>j=p∨j=q) w N):=by
    show Fr _ _ _
    rw[←U]
    exact (((Fr.below aH.out).mono (fun j _ e=>e)).set (S:=fun j=>j=p∨j=q) (g:=p) (.inl (.inl rfl)) _ _).drew
   have aV:Hid (Rw N p T.L.V 4 (boR (zAx rd num true))):=by
    show Rw _ _ _ _ _
    rw[←U]
    exact ((Rw.put (Rw.below H.out.rdR aH.out (Rw.lt H.out.rdR)) num (.bool true)).to (fun j _=>by unfold zB2 boR zAx;split<;>rfl)).drew
   have Q:Hid (∀j,j<w.heap.size→j≠p→N.heap[j]? =w.heap[j]?):=fun j F bP=>by
    rw[←U]
    exact (zC W2 p num j (.bool true) bP).trans (aH.out.block j F)
   clear U
   have b3:=(Q.out k aO bQ).trans H.out.row
   have aN:=(Q.out g2 Z bO).trans H2.out
   have b7:q≠p:=fun e=>by have A:=H.out.blR;unfold Rw at A;rw[e,show w.heap[p]? =_ from H.out.rdR]at A;simp at A
   have b6:qb≠p:=fun e=>by have A:=HS.out;unfold Rw at A;rw[e,show w.heap[p]? =_ from H.out.rdR]at A;simp at A
   have b4:Rw N q T.L.cnt 9 (tX bl):=(Q.out q (Rw.lt H.out.blR) b7).trans H.out.blR
   have aB:Rw N qb c 9 (tX S):=(Q.out qb (Rw.lt HS.out) b6).trans HS.out
   have k3:N.cell? ⟨k,3,none⟩=some (.slice (some ⟨q,0,none⟩) T.L.cnt T.L.cnt):=cell_of_row _ _ _ _ 114 _ b3
   have n9:N.cell? ⟨g2,9,none⟩=some (.int .i64 first):=cell_of_row _ _ _ _ 157 _ aN
   have cF:N.cell? ⟨g2,10,none⟩=some (.slice (some ⟨qb,0,none⟩) c c):=cell_of_row _ _ _ _ 157 _ aN
   have bF:Hid (Rw N q T.L.cnt 9 (tX bl)):=b4
   have aW:Hid (Rw N qb c 9 (tX S)):=aB
   clear b3 aN b4 aB
   obtain⟨X4,aC,b5,b1⟩:=zDu N.drew q T.L.cnt first qb c c bl S 3 bF.out.drew aW.out.drew b2
   have aX:Hid _:=aC
   have bG:Hid (Rw X4 q T.L.cnt 9 (tX (laid bl first c S))):=b5
   have aI:Hid (Fr (fun j=>j=q) N X4):=(Fr.refl _ N).drew.trans' b1
   clear aC b5 b1
   have hT:∀j,j<w.heap.size→j≠p→j≠q→X4.heap[j]? =w.heap[j]? :=fun j F h1 h2=>(aI.out.old j (Nat.lt_of_lt_of_le F aU.out.size) h2).trans (Q.out j F h1)
   have aT:Hid (SS B k g p q f T un (zAx rd num true) (laid bl first c S) X4∧Fr (fun j=>j=p∨j=q) w X4):=by
    obtain⟨aE,kE,aF,J,bA,a1,a8⟩:=H.out.hd
    have t1:∀{j:Nat} {cs:Array Value} {t:TypeId},w.heap[j]? =some (.cells cs t (0,0))→t≠4→j≠p:=fun {j cs t} F ht e=>by
     have A:w.heap[p]? =_:=H.out.rdR
     rw[e,A]at F
     simp only[Option.some.injEq,Obj.cells.injEq]at F
     exact ht F.2.1.symm
    have t2:∀{j:Nat} {cs:Array Value} {t:TypeId},w.heap[j]? =some (.cells cs t (0,0))→t≠9→j≠q:=fun {j cs t} F ht e=>by
     have A:w.heap[q]? =_:=H.out.blR
     rw[e,A]at F
     simp only[Option.some.injEq,Obj.cells.injEq]at F
     exact ht F.2.1.symm
    have t3:∀{j:Nat} {cs:Array Value} {t:TypeId},w.heap[j]? =some (.cells cs t (0,0))→t≠4→t≠9→X4.heap[j]? =some (.cells cs t (0,0)):=fun {j cs t} F h4 h9=>(hT j (Array.getElem?_eq_some_iff.1 F).1 (t1 F h4) (t2 F h9)).trans F
    refine⟨⟨t3 H.out.row (by decide) (by decide),⟨aE,kE,aF,J,bA,t3 a1 (by decide) (by decide),zD a8 (fun z hz=> ?_)⟩,?_,bG.out,t3 H.out.fiR (by decide) (by decide)⟩,aU.out.trans' (aI.out.mono (fun j _ e=>.inr e))⟩
    ·obtain⟨cur,hc⟩:=zB a8 z hz
     rw[t3 hc (by decide) (by decide),hc]
    ·exact (aI.out.old p (Rw.lt aV.out) b7.symm).trans aV.out
   clear hT
   have cE:=fun W=>zDe W q T.L.cnt first (by omega)
   go_wp2_with fail
   go_region_law (refine zEP rfl (.tmp 57) (.tmp 61) 22 rfl (zE9 q T.L.cnt first) (.slice (some ⟨qb,0,none⟩) c c) (.int .i64 c) (by simp[Act.eval,Act.put]) (by simp[Act.eval,Act.put]) X4 aX.out ?_)
   all_goals go_wp2_with fail
   all_goals go_ret
   all_goals exact .inr (.inr ⟨R.out,aY.out,rfl,aT.out⟩)
def noR:Nat→Bool:=fun _=>false
def noT:Nat→ByteArray:=fun _=>⟨#[]⟩
theorem zPN (B k g2 G c num first pl:Nat)(u:TT)(un:Value)(a1:Option Addr)(aA:Nat)(S:Nat→ByteArray)(F:World)(h0:F.heap[k]? =some (.cells (stC (.pointer none) un (.slice none 0 0) (.slice none 0 0) (.slice none 0 0)) 114 (0,0)))
 (a2:F.heap[g2]? =some (.cells (zBE u.root u.lst u.L.K u.L.M u.L.C u.L.V (.slice a1 u.L.es.length aA) u.lv num first (.slice (some ⟨G,0,none⟩) c c)) 157 (0,0))) (a4:F.ownsRow B 131 2 (.slice a1 u.L.es.length aA) u.L.es.length (enV u.L.es)) (aG:Rw F G c 9 (tX S))
 (J:zt u) (a8:u.L.es.length≤16∧zM u.L.es≤4096) (bS:num<u.L.V∧first+c≤u.L.cnt):
 Calls Tryz.prog 43 #[.pointer (some ⟨k,0,none⟩),.int .i64 pl,.pointer (some ⟨g2,0,none⟩)] F fun e w'=>e=.returned .nilIface∧∃p q f,F.heap.size≤p∧F.heap.size≤q∧F.heap.size≤f∧SS B k g2 p q f u un (zAx noR num true) (laid noT first c S) w'∧Fr (fun j=>j=k) F w':=by
 have b0:F.cell? ⟨k,0,none⟩=some (.pointer none):=cell_of_row _ _ _ _ 114 _ h0
 have b4:Hid _:=zN8 k g2 B u.L.K u.L.M u.L.C u.L.V num first a1 aA u.L.es u.root u.lst u.lv (.slice (some ⟨G,0,none⟩) c c) un F h0 a2 a4 a8.1 a8.2 J.k1 J.km J.c1 J.c64 J.v16 u.L.cnt u.L.ns rfl J.cnt rfl
 have H0:Hid (∀X:World,Fr (fun j=>j=k) F X→X.heap[g2]? =F.heap[g2]? ∧X.heap[G]? =F.heap[G]? ∧X.ownsRow B 131 2 (.slice a1 u.L.es.length aA) u.L.es.length (enV u.L.es)):=fun X hX=>⟨hX.old g2 (Array.getElem?_eq_some_iff.1 a2).1 (fun e=>by have h1:=a2;rw[e,h0]at h1;simp at h1),hX.old G (Rw.lt aG) (fun e=>by have h1:F.heap[G]? =_:=aG;rw[e,h0]at h1;simp at h1),zD a4 (fun z hz=>hX.old z (zG a4 z hz) (fun e=>by
  obtain⟨cur,hc⟩:=zB a4 z hz
  have h1:=h0
  rw[←e,hc]at h1;simp at h1))⟩
 have b2:Hid _:=a2
 have b3:Hid (Rw F G c 9 (tX S)):=aG
 have bA:Hid _:=bS
 clear h0 a2 a4 aG J a8 bS
 go_enter Tryz.func43,Tryz.ntmps43
 go_wp2_with fail
 refine Calls.mono b4.out ?_
 rintro e w ⟨rfl,p,q,f,bH,bK,bB,bF,bJ,bO,bD,aU⟩
 obtain⟨e2,eb,eo⟩:=H0.out w aU
 have h2:=e2.trans b2.out
 have hS:Rw w G c 9 (tX S):=eb.trans b3.out
 have h:SS B k g2 p q f u un noR noT w:=⟨bF,⟨a1,aA,num,first,_,h2,eo⟩,bJ,bO,bD⟩
 have bT:num<u.L.V∧first+c≤u.L.cnt:=bA.out
 have bZ:Hid _:=aU
 have Z:Hid (F.heap.size≤p∧F.heap.size≤q∧F.heap.size≤f):=⟨bH,bK,bB⟩
 clear b0 b4 H0 b2 b3 bA e2 eb eo bF bJ bO bD aU bH bK bB
 have aX:k<w.heap.size:=(Array.getElem?_eq_some_iff.1 h.row).1
 have a6:g2<w.heap.size:=(Array.getElem?_eq_some_iff.1 h2).1
 obtain⟨aE,kE,aN,Q,bU,a7,aI⟩:=h.hd
 have cF:g2<w.heap.size:=(Array.getElem?_eq_some_iff.1 a7).1
 have a0:w.cell? ⟨k,0,none⟩=some (.pointer (some ⟨g2,0,none⟩)):=cell_of_row _ _ _ _ 114 _ h.row
 have cE:Hid (∀X:World,Below w.heap.size w X→Calls Tryz.prog 74 #[.pointer (some ⟨g2,0,none⟩),.pointer (some ⟨g2,0,none⟩)] X fun e w'=>e=.returned (.bool true)∧Below X.heap.size X w'):=fun X hX=>by
  have A:=(hX.block g2 cF).trans a7
  have e2:=(hX.block g2 a6).trans h2
  have hh:=zNW g2 g2 u.root u.lst u.lv u.root u.lst u.lv X (cell_of_row _ _ _ _ 157 _ A) (cell_of_row _ _ _ _ 157 _ A) (cell_of_row _ _ _ _ 157 _ A) (cell_of_row _ _ _ _ 157 _ e2) (cell_of_row _ _ _ _ 157 _ e2) (cell_of_row _ _ _ _ 157 _ e2)
  rw[decide_eq_true (show u.root=u.root∧u.lst=u.lst∧u.lv=u.lv from ⟨rfl,rfl,rfl⟩)]at hh
  exact hh
 have HK:Hid (∀X:World,Below w.heap.size w X→X.cell? ⟨k,0,none⟩=some (.pointer (some ⟨g2,0,none⟩))):=fun X hX=>(hX.cell (p:=⟨k,0,none⟩) aX).trans a0
 have H:Hid _:=h
 have H2:Hid _:=h2
 have HS:Hid (Rw w G c 9 (tX S)):=hS
 have cD:Hid _:=bT
 clear h h2 hS a7 aI bT
 go_wp2_with fail
 go_region_held3 (fun w2=>w2.cell? ⟨k,0,none⟩=some (.pointer (some ⟨g2,0,none⟩))) (go_keep) ((go_at_call 74;refine Calls.mono (cE.out _ (by first|exact Below.refl _ _|exact (Below.refl _ _).drew)) ?_;rintro e w1 ⟨rfl,aV⟩;have aT:Below w.heap.size w w1:=(by first|exact aV|exact ((Below.refl _ _).drew).trans aV);have q0:=HK.out w1 aT))
 have aD:Hid _:=aT
 clear aV aT q0 a0
 obtain⟨cJ,bE⟩:=cD.out
 have aJ:=(aD.out.block k aX).trans H.out.row
 have aH:=(aD.out.block g2 a6).trans H2.out
 have a9:Rw w1 p u.L.V 4 (boR noR):=Rw.below H.out.rdR aD.out (Rw.lt H.out.rdR)
 have k2:w1.cell? ⟨k,2,none⟩=some (.slice (some ⟨p,0,none⟩) u.L.V u.L.V):=cell_of_row _ _ _ _ 114 _ aJ
 have n8:w1.cell? ⟨g2,8,none⟩=some (.int .i64 num):=cell_of_row _ _ _ _ 157 _ aH
 have p8:w1.cell? ⟨p,num,none⟩=some (.bool (noR num)):=a9.cell num cJ
 have cI:k≠p:=fun e=>by have A:=aJ;rw[e]at A;rw[show w1.heap[p]? =_ from a9]at A;simp at A
 have cG:g2≠p:=fun e=>by have A:=aH;rw[e]at A;rw[show w1.heap[p]? =_ from a9]at A;simp at A
 have cW:Hid _:=aJ
 have cV:Hid _:=aH
 have c8:Hid (Rw w1 p u.L.V 4 (boR noR)):=a9
 obtain⟨rv,aY⟩:∃x,noR num=x:=⟨_,rfl⟩
 rw[aY]at p8
 have cB:Hid _:=aY
 clear aJ aH a9 aY
 cases rv with
 |true=>exact absurd cB.out (by simp[noR])
 |false=>
  go_wp2_with fail
  go_quiet (fail)
  obtain⟨W2,N⟩:∃X,w1.drewN nq=X:=⟨_,rfl⟩
  rw[N]
  have aO:Hid (Below w.heap.size w W2):=by show Below _ _ _;rw[←N];exact below_drewN aD.out _
  replace k2:W2.cell? ⟨k,2,none⟩=some (.slice (some ⟨p,0,none⟩) u.L.V u.L.V):=by rw[←N];exact k2
  replace n8:W2.cell? ⟨g2,8,none⟩=some (.int .i64 num):=by rw[←N];exact n8
  replace p8:W2.cell? ⟨p,num,none⟩=some (.bool false):=by rw[←N];exact p8
  have z8:W2.frozen? ⟨p,num,none⟩=false:=by rw[←N];exact c8.out.free num
  clear N
  go_wp2_with fail
  go_region
  clear k2 n8 p8 z8
  obtain⟨R,a5⟩:∃X,(W2.setCell ⟨p,num,none⟩ (.bool true)).drew=X:=⟨_,rfl⟩
  rw[a5]
  have b5:Hid (Fr (fun j=>j=p∨j=q) w R):=by
   show Fr _ _ _
   rw[←a5]
   exact (((Fr.below aO.out).mono (fun j _ e=>e)).set (S:=fun j=>j=p∨j=q) (g:=p) (.inl (.inl rfl)) _ _).drew
  have b6:Hid (Rw R p u.L.V 4 (boR (zAx noR num true))):=by
   show Rw _ _ _ _ _
   rw[←a5]
   exact ((Rw.put (Rw.below H.out.rdR aO.out (Rw.lt H.out.rdR)) num (.bool true)).to (fun j _=>by unfold zB2 boR zAx;split<;>rfl)).drew
  have U:Hid (∀j,j<w.heap.size→j≠p→R.heap[j]? =w.heap[j]?):=fun j D cH=>by
   rw[←a5]
   exact (zC W2 p num j (.bool true) cH).trans (aO.out.block j D)
  clear a5
  have bG:=(U.out k aX cI).trans H.out.row
  have aW:=(U.out g2 a6 cG).trans H2.out
  have bQ:q≠p:=fun e=>by have A:=H.out.blR;unfold Rw at A;rw[e,show w.heap[p]? =_ from H.out.rdR]at A;simp at A
  have bP:G≠p:=fun e=>by have A:=HS.out;unfold Rw at A;rw[e,show w.heap[p]? =_ from H.out.rdR]at A;simp at A
  have bL:Rw R q u.L.cnt 9 (tX noT):=(U.out q (Rw.lt H.out.blR) bQ).trans H.out.blR
  have aL:Rw R G c 9 (tX S):=(U.out G (Rw.lt HS.out) bP).trans HS.out
  have k3:R.cell? ⟨k,3,none⟩=some (.slice (some ⟨q,0,none⟩) u.L.cnt u.L.cnt):=cell_of_row _ _ _ _ 114 _ bG
  have n9:R.cell? ⟨g2,9,none⟩=some (.int .i64 first):=cell_of_row _ _ _ _ 157 _ aW
  have cZ:R.cell? ⟨g2,10,none⟩=some (.slice (some ⟨G,0,none⟩) c c):=cell_of_row _ _ _ _ 157 _ aW
  have c9:Hid (Rw R q u.L.cnt 9 (tX noT)):=bL
  have b7:Hid (Rw R G c 9 (tX S)):=aL
  clear bG aW bL aL
  obtain⟨X4,aM,bM,bC⟩:=zDu R.drew q u.L.cnt first G c c noT S 3 c9.out.drew b7.out.drew bE
  have b9:Hid _:=aM
  have cA:Hid (Rw X4 q u.L.cnt 9 (tX (laid noT first c S))):=bM
  have aP:Hid (Fr (fun j=>j=q) R X4):=(Fr.refl _ R).drew.trans' bC
  clear aM bM bC
  have hT:∀j,j<w.heap.size→j≠p→j≠q→X4.heap[j]? =w.heap[j]? :=fun j D h1 h2=>(aP.out.old j (Nat.lt_of_lt_of_le D b5.out.size) h2).trans (U.out j D h1)
  have aK:Hid (SS B k g2 p q f u un (zAx noR num true) (laid noT first c S) X4∧Fr (fun j=>j=p∨j=q) w X4):=by
   obtain⟨aE,kE,aN,Q,bU,a7,aI⟩:=H.out.hd
   have t1:∀{j:Nat} {cs:Array Value} {t:TypeId},w.heap[j]? =some (.cells cs t (0,0))→t≠4→j≠p:=fun {j cs t} D ht e=>by
    have A:w.heap[p]? =_:=H.out.rdR
    rw[e,A]at D
    simp only[Option.some.injEq,Obj.cells.injEq]at D
    exact ht D.2.1.symm
   have t2:∀{j:Nat} {cs:Array Value} {t:TypeId},w.heap[j]? =some (.cells cs t (0,0))→t≠9→j≠q:=fun {j cs t} D ht e=>by
    have A:w.heap[q]? =_:=H.out.blR
    rw[e,A]at D
    simp only[Option.some.injEq,Obj.cells.injEq]at D
    exact ht D.2.1.symm
   have t3:∀{j:Nat} {cs:Array Value} {t:TypeId},w.heap[j]? =some (.cells cs t (0,0))→t≠4→t≠9→X4.heap[j]? =some (.cells cs t (0,0)):=fun {j cs t} D h4 h9=>(hT j (Array.getElem?_eq_some_iff.1 D).1 (t1 D h4) (t2 D h9)).trans D
   refine⟨⟨t3 H.out.row (by decide) (by decide),⟨aE,kE,aN,Q,bU,t3 a7 (by decide) (by decide),zD aI (fun z hz=> ?_)⟩,?_,cA.out,t3 H.out.fiR (by decide) (by decide)⟩,b5.out.trans' (aP.out.mono (fun j _ e=>.inr e))⟩
   ·obtain⟨cur,hc⟩:=zB aI z hz
    rw[t3 hc (by decide) (by decide),hc]
   ·exact (aP.out.old p (Rw.lt b6.out) bQ.symm).trans b6.out
  clear hT
  have cY:=fun W=>zDe W q u.L.cnt first (by omega)
  go_wp2_with fail
  go_region_law (refine zEP rfl (.tmp 57) (.tmp 61) 22 rfl (zE9 q u.L.cnt first) (.slice (some ⟨G,0,none⟩) c c) (.int .i64 c) (by simp[Act.eval,Act.put]) (by simp[Act.eval,Act.put]) X4 b9.out ?_)
  all_goals go_wp2_with fail
  all_goals go_ret
  all_goals exact⟨rfl,p,q,f,Z.out.1,Z.out.2.1,Z.out.2.2,aK.out.1,bZ.out.trans (fun j D=>.inr (by rcases D with e|e<;>(rw[e];first|exact Z.out.1|exact Z.out.2.1))) aK.out.2⟩
theorem zK6 (x:ByteArray):∀(k i sum:Nat),(vrF x i sum k).2≠0→i<(vrF x i sum k).2
 |0,_,_,h=>absurd rfl h
 |k+1,i,sum,h=>by
  unfold vrF at h ⊢
  split at h
  ·rename_i hi
   rw[dif_pos hi]
   split at h
   ·rename_i h1
    rw[if_pos h1]
    have:=zK6 x k (i+1) _ h
    omega
   ·rename_i h1
    rw[if_neg h1]
    split at h
    ·exact absurd rfl h
    ·rename_i h2
     rw[if_neg h2]
     exact Nat.lt_succ_self i
  ·exact absurd rfl h
theorem zI0 (x y:ByteArray)(m:Nat)(D:∀j,j<m→∃(F:j<x.size) (G:j<y.size),x[j]=y[j]):∀(k i sum:Nat),(vrF x i sum k).2≠0→(vrF x i sum k).2≤m→vrF y i sum k=vrF x i sum k
 |0,_,_,h,_=>absurd rfl h
 |k+1,i,sum,h,hm=>by
  have hgt:=zK6 x (k+1) i sum h
  obtain⟨F,G,A⟩:=D i (by omega)
  unfold vrF at h hm ⊢
  rw[dif_pos F]at h hm ⊢
  rw[dif_pos G,←A]
  by_cases u:128≤x[i].toNat
  ·rw[if_pos u]at h hm ⊢
   rw[if_pos u]
   exact zI0 x y m D k (i+1) _ h hm
  ·rw[if_neg u,if_neg u]
structure zG4 (d:Nat)(a b:RS):Prop where
 wb:b.wrong=false
 eq:∀j,j<d→∃(ha:a.next+j<a.text.size) (hb:b.next+j<b.text.size),a.text[a.next+j]=b.text[b.next+j]
theorem zB5 {s:RS}{n:Nat}(j:s.wrong=false)(u:n≤s.text.size-s.next):s.bytes n=({ s with field:=s.next,next:=s.next+n },s.text.extract s.next (s.next+n)):=by
 unfold RS.bytes
 rw[j]
 simp only[Bool.false_eq_true,if_false]
 rw[if_neg (by omega)]
theorem zDs {d n:Nat}{a b:RS}(h:zG4 d a b)(u:(a.bytes n).1.wrong=false)(hd:(a.bytes n).1.next≤a.next+d):
 (b.bytes n).2=(a.bytes n).2∧zG4 (a.next+d-(a.bytes n).1.next) (a.bytes n).1 (b.bytes n).1∧(b.bytes n).1.next+a.next=(a.bytes n).1.next+b.next:=by
 have G:=zR u
 have A:n≤a.text.size-a.next:=by
  unfold RS.bytes at u
  rw[G]at u
  simp only[Bool.false_eq_true,if_false]at u
  split at u
  ·cases u
  ·omega
 rw[zB5 G A]at hd ⊢
 have R:n≤d:=by have:a.next+n≤a.next+d:=hd;omega
 have D:n≤b.text.size-b.next:=by
  cases n with
  |zero=>omega
  |succ m=>obtain⟨_,hb,_⟩:=h.eq m (by omega);omega
 rw[zB5 h.wb D]
 refine⟨?_,⟨h.wb,fun j U=> ?_⟩,?_⟩
 ·show b.text.extract b.next (b.next+n)=a.text.extract a.next (a.next+n)
  apply ByteArray.ext_getElem
  ·rw[ByteArray.size_extract,ByteArray.size_extract];omega
  ·intro i F Q
   rw[ByteArray.getElem_extract,ByteArray.getElem_extract]
   rw[ByteArray.size_extract]at F
   obtain⟨_,_,e⟩:=h.eq i (by omega)
   exact e.symm
 ·have W:j<a.next+d-(a.next+n):=U
  obtain⟨F,Q,e⟩:=h.eq (n+j) (by omega)
  refine⟨by show a.next+n+j<a.text.size;omega,by show b.next+n+j<b.text.size;omega,?_⟩
  show a.text[a.next+n+j]'_=b.text[b.next+n+j]'_
  have J:a.next+n+j=a.next+(n+j):=by omega
  have N:b.next+n+j=b.next+(n+j):=by omega
  simp only[J,N]
  exact e
 ·show b.next+n+a.next=a.next+n+b.next
  omega
theorem zH1 {s:RS}{lo:Nat}{hi:Int}(j:(s.num lo hi).1.wrong=false):s.num lo hi=({ s with field:=s.next,next:=s.next+(vrd (s.text.extract s.next s.text.size)).2 },(vrd (s.text.extract s.next s.text.size)).1)∧¬((vrd (s.text.extract s.next s.text.size)).2=0∨(vrd (s.text.extract s.next s.text.size)).1<lo∨hi<((vrd (s.text.extract s.next s.text.size)).1:Int)):=by
 have h:=(ze j).1
 unfold RS.num at j ⊢
 rw[h]at j ⊢
 simp only[Bool.false_eq_true,if_false]at j ⊢
 split at j
 ·cases j
 ·rename_i hn
  exact⟨by rw[if_neg hn],hn⟩
theorem zBA {d lo:Nat}{hi:Int}{a b:RS}(h:zG4 d a b)(X:(a.num lo hi).1.wrong=false)(hd:(a.num lo hi).1.next≤a.next+d):
 (b.num lo hi).2=(a.num lo hi).2∧zG4 (a.next+d-(a.num lo hi).1.next) (a.num lo hi).1 (b.num lo hi).1∧(b.num lo hi).1.next+a.next=(a.num lo hi).1.next+b.next:=by
 obtain⟨e,D⟩:=zH1 X
 rw[e]at hd ⊢
 have u:(vrd (a.text.extract a.next a.text.size)).2≤d:=by have:a.next+(vrd (a.text.extract a.next a.text.size)).2≤a.next+d:=hd;omega
 have W:vrd (b.text.extract b.next b.text.size)=vrd (a.text.extract a.next a.text.size):=by
  refine zI0 _ _ d (fun j A=> ?_) 5 0 0 (fun F=>D (.inl F)) u
  obtain⟨Q,R,e⟩:=h.eq j A
  refine⟨by rw[ByteArray.size_extract];omega,by rw[ByteArray.size_extract];omega,?_⟩
  rw[ByteArray.getElem_extract,ByteArray.getElem_extract]
  exact e
 have N:b.num lo hi=({ b with field:=b.next,next:=b.next+(vrd (a.text.extract a.next a.text.size)).2 },(vrd (a.text.extract a.next a.text.size)).1):=by
  unfold RS.num
  rw[h.wb]
  simp only[Bool.false_eq_true,if_false]
  rw[W,if_neg D]
 rw[N]
 obtain⟨z,Z⟩:∃z,(vrd (a.text.extract a.next a.text.size)).2=z:=⟨_,rfl⟩
 rw[Z]at u ⊢
 refine⟨rfl,⟨h.wb,fun j A=> ?_⟩,?_⟩
 ·have U:j<a.next+d-(a.next+z):=A
  obtain⟨Q,R,e⟩:=h.eq (z+j) (by omega)
  refine⟨by show a.next+z+j<a.text.size;omega,by show b.next+z+j<b.text.size;omega,?_⟩
  show a.text[a.next+z+j]'_=b.text[b.next+z+j]'_
  have G:a.next+z+j=a.next+(z+j):=by omega
  have J:b.next+z+j=b.next+(z+j):=by omega
  simp only[G,J]
  exact e
 ·show b.next+z+a.next=a.next+z+b.next
  omega
theorem zKN {d:Nat}{t:ByteArray}{a b:RS}(h:zG4 d a b)(j:(a.word t).wrong=false)(hd:(a.word t).next≤a.next+d):
 zG4 (a.next+d-(a.word t).next) (a.word t) (b.word t)∧(b.word t).next+a.next=(a.word t).next+b.next:=by
 have e:(a.bytes t.size).2=t:=by
  unfold RS.word at j
  split at j
  ·assumption
  ·cases j
 have u:a.word t=(a.bytes t.size).1:=by unfold RS.word;rw[if_pos e]
 rw[u]at j hd ⊢
 obtain⟨D,F,G⟩:=zDs h j hd
 have A:b.word t=(b.bytes t.size).1:=by unfold RS.word;rw[if_pos (D.trans e)]
 rw[A]
 exact⟨F,G⟩
theorem zHP {d:Nat}{nm:ByteArray}{l:Int}{a b:RS}(h:zG4 d a b)(A:(a.entry nm l).1.wrong=false)(hd:(a.entry nm l).1.next≤a.next+d):
 (b.entry nm l).2=(a.entry nm l).2∧zG4 (a.next+d-(a.entry nm l).1.next) (a.entry nm l).1 (b.entry nm l).1∧(b.entry nm l).1.next+a.next=(a.entry nm l).1.next+b.next:=by
 have Z:((if leT ((a.num 1 255).1.bytes (a.num 1 255).2).2 nm then ((a.num 1 255).1.bytes (a.num 1 255).2).1.refuse else ((a.num 1 255).1.bytes (a.num 1 255).2).1).num 0 l).1.wrong=false:=A
 have u:=(ze Z).1
 have j:¬(leT ((a.num 1 255).1.bytes (a.num 1 255).2).2 nm=true):=fun e=>by rw[if_pos e]at u;cases u
 rw[if_neg j]at u
 have X:=zR u
 have G:a.entry nm l=((((a.num 1 255).1.bytes (a.num 1 255).2).1.num 0 l).1,((a.num 1 255).1.bytes (a.num 1 255).2).2,(((a.num 1 255).1.bytes (a.num 1 255).2).1.num 0 l).2):=by
  unfold RS.entry
  simp only[]
  rw[if_neg j]
 rw[G]at A hd ⊢
 have D:(((a.num 1 255).1.bytes (a.num 1 255).2).1.num 0 l).1.wrong=false:=A
 have N:(((a.num 1 255).1.bytes (a.num 1 255).2).1.num 0 l).1.next≤a.next+d:=hd
 have v1:=(zk a 1 255).2
 have v2:=(zZ (a.num 1 255).1 (a.num 1 255).2).2
 have v3:=(zk ((a.num 1 255).1.bytes (a.num 1 255).2).1 0 l).2
 obtain⟨Q,R,p3⟩:=zBA h X (by omega)
 obtain⟨U,W,q3⟩:=zDs R u (by omega)
 obtain⟨r1,r2,r3⟩:=zBA W D (by omega)
 have J:b.entry nm l=((((b.num 1 255).1.bytes (a.num 1 255).2).1.num 0 l).1,((a.num 1 255).1.bytes (a.num 1 255).2).2,(((b.num 1 255).1.bytes (a.num 1 255).2).1.num 0 l).2):=by
  unfold RS.entry
  simp only[]
  rw[Q,U,if_neg j]
 rw[J]
 refine⟨by rw[r1],?_,?_⟩
 ·show zG4 (a.next+d-(((a.num 1 255).1.bytes (a.num 1 255).2).1.num 0 l).1.next) _ _
  have F:a.next+d-(((a.num 1 255).1.bytes (a.num 1 255).2).1.num 0 l).1.next=((a.num 1 255).1.bytes (a.num 1 255).2).1.next+((a.num 1 255).1.next+(a.next+d-(a.num 1 255).1.next)-((a.num 1 255).1.bytes (a.num 1 255).2).1.next)-(((a.num 1 255).1.bytes (a.num 1 255).2).1.num 0 l).1.next:=by omega
  rw[F]
  exact r2
 ·show (((b.num 1 255).1.bytes (a.num 1 255).2).1.num 0 l).1.next+a.next=(((a.num 1 255).1.bytes (a.num 1 255).2).1.num 0 l).1.next+b.next
  omega
theorem zFW:∀(k:Nat) {d:Nat} {nm:ByteArray} {l:Int} {j:List (ByteArray×Nat)} {a b:RS},zG4 d a b→(RS.ents k a nm l j).1.wrong=false→(RS.ents k a nm l j).1.next≤a.next+d→(RS.ents k b nm l j).2=(RS.ents k a nm l j).2∧(RS.ents k b nm l j).1.wrong=false∧(RS.ents k b nm l j).1.next+a.next=(RS.ents k a nm l j).1.next+b.next
 |0,d,nm,l,j,a,b,h,hw,hd=>⟨rfl,h.wb,by show b.next+a.next=a.next+b.next;omega⟩
 |k+1,d,nm,l,j,a,b,h,hw,hd=>by
  rw[RS.ents]at hw hd ⊢
  have G:=zBV _ _ _ _ _ hw
  have v1:=(zBq k (a.entry nm l).1 (a.entry nm l).2.1 (l-(a.entry nm l).2.2) (j++[((a.entry nm l).2.1,(a.entry nm l).2.2)])).2
  have Q:=(zDv a nm l).2
  obtain⟨u,A,J⟩:=zHP h G (by omega)
  rw[RS.ents,u]
  obtain⟨D,F,N⟩:=zFW k A hw (by omega)
  exact⟨D,F,by omega⟩
end Go.Proofs.YtlopecgkiikdhaaGreatDoor
