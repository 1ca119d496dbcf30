import Derived.Test.YtlopecgkiikdhaaGreatDoorX17
import Derived.Test.YtlopecgkiikdhaaGreatDoorX07
import Derived.Test.YtlopecgkiikdhaaGreatDoorX15
import Derived.Test.YtlopecgkiikdhaaGreatDoorX13
namespace Go.Proofs.YtlopecgkiikdhaaGreatDoor
open Go.RowKit
set_option maxHeartbeats 1000000
set_option maxRecDepth 100000
def zCg:ByteArray:=⟨#[98,101,104,105,110,100]⟩
def lF (L:Nat→ByteArray)(n:Nat):Nat→Value:=fun i=>.string (if i<n then L i else zCg)
structure LentAt (w:World)(x g1 g2 n:Nat)(nl:Bool)(L:Nat→ByteArray):Prop where
 obj:w.heap[x]? =some (.cells #[.slice (some ⟨g1,0,none⟩) (n+8) (n+8),.slice (some ⟨g2,0,none⟩) (n+8) (n+8),.int .i64 n,.bool nl] 58 (0,0))
 all:Rw w g1 (n+8) 9 (lF L n)
 want:Rw w g2 (n+8) 9 (lF L n)
 ne:g1≠g2
def In (w:World)(a:Option Addr)(n:Nat)(L:Nat→ByteArray):Prop:=∀i,i<n→∃b off,a=some ⟨b,off,none⟩∧b<w.heap.size∧w.cell? ⟨b,off+i,none⟩=some (.string (L i))
theorem zLb (a:Option Addr)(n j:Nat)(W:World):(binOp .eql 22 (.slice a n j) (.slice none 0 0)).run Tryz.prog W=.ok (.bool a.isNone) W:=by cases a<;>kernel_rfl
theorem zJi (L:Nat→ByteArray)(a:Option Addr)(n aF:Nat)(w:World)(hn:n≤4398046511104)(hI:In w a n L):
 Calls Tryz.prog 6 #[.slice a n aF] w fun e w'=>∃g1 g2,e=.returned (.pointer (some ⟨w.heap.size,0,none⟩))∧w.heap.size<g1∧w.heap.size<g2∧LentAt w' w.heap.size g1 g2 n a.isNone L∧Below w.heap.size w w':=by
 have HI:Hid (In w a n L):=hI
 clear hI
 obtain⟨m,hm,bE⟩:∃m,m=n+8∧∀W:World,(Instr.makeSlice 22 (.int .i64 ((n:Int)+8)) (.int .i64 ((n:Int)+8))).run Tryz.prog W=.ok (.slice (some ⟨W.heap.size,0,none⟩) m m) (W.alloc (.cells (madeCells #[.string ⟨#[]⟩] m) 9)):=by
  refine⟨n+8,rfl,fun W=> ?_⟩
  rw[show ((n:Int)+8)=((n+8:Nat):Int) by omega]
  exact run_make_row' (P:=Tryz.prog) 22 9 (.string ⟨#[]⟩) 16 Tryz.underlying22 zAl rfl .i64 .i64 (n+8) (by omega) (by omega) W
 have HM:Hid _:=hm
 have bD:m≤4398046511112:=by omega
 clear hm
 have b2:=fun W=>zLb a n aF W
 go_enter Tryz.func6,Tryz.ntmps6
 go_wp2
 obtain⟨x,hx⟩:∃x,x=w.heap.size:=⟨_,rfl⟩
 obtain⟨w0,J⟩:∃w0,w0=(((w.alloc (Obj.cells #[Value.slice (some { block:=w.heap.size+1,off:=0 }) m m,Value.slice (some { block:=w.heap.size+1+1,off:=0 }) m m,Value.int IntKind.i64 ↑n,Value.bool a.isNone] 58)).alloc (Obj.cells (madeCells #[Value.string { data:= #[] }] m) 9)).alloc (Obj.cells (madeCells #[Value.string { data:= #[] }] m) 9)):=⟨_,rfl⟩
 have aX:w0.heap.size=w.heap.size+3:=by rw[J];simp
 have aI:Below w.heap.size w w0:=by rw[J];exact ((((Below.refl _ w).alloc (Nat.le_refl _) _)).alloc (by simp) _).alloc (by simp;omega) _
 have a1:w0.heap[w.heap.size]? =some (.cells #[.slice (some ⟨w.heap.size+1,0,none⟩) m m,.slice (some ⟨w.heap.size+1+1,0,none⟩) m m,.int .i64 n,.bool a.isNone] 58 (0,0)):=by
  rw[J,Below.heap_alloc _ _ _ (by simp;omega),Below.heap_alloc _ _ _ (by simp)];exact heap_alloc_new _ _
 have aH:Rw w0 (w.heap.size+1) m 9 (fun _=>.string ⟨#[]⟩):=by
  have h1:=Rw.made (w.alloc (Obj.cells #[Value.slice (some { block:=w.heap.size+1,off:=0 }) m m,Value.slice (some { block:=w.heap.size+1+1,off:=0 }) m m,Value.int IntKind.i64 ↑n,Value.bool a.isNone] 58)) m 9 (.string ⟨#[]⟩)
  have e:(w.alloc (Obj.cells #[Value.slice (some { block:=w.heap.size+1,off:=0 }) m m,Value.slice (some { block:=w.heap.size+1+1,off:=0 }) m m,Value.int IntKind.i64 ↑n,Value.bool a.isNone] 58)).heap.size=w.heap.size+1:=by simp
  rw[e]at h1
  rw[J];exact h1.alloc _
 have aJ:Rw w0 (w.heap.size+1+1) m 9 (fun _=>.string ⟨#[]⟩):=by
  have h1:=Rw.made ((w.alloc (Obj.cells #[Value.slice (some { block:=w.heap.size+1,off:=0 }) m m,Value.slice (some { block:=w.heap.size+1+1,off:=0 }) m m,Value.int IntKind.i64 ↑n,Value.bool a.isNone] 58)).alloc (Obj.cells (madeCells #[Value.string { data:= #[] }] m) 9)) m 9 (.string ⟨#[]⟩)
  have e:((w.alloc (Obj.cells #[Value.slice (some { block:=w.heap.size+1,off:=0 }) m m,Value.slice (some { block:=w.heap.size+1+1,off:=0 }) m m,Value.int IntKind.i64 ↑n,Value.bool a.isNone] 58)).alloc (Obj.cells (madeCells #[Value.string { data:= #[] }] m) 9)).heap.size=w.heap.size+1+1:=by simp
  rw[e]at h1
  rw[J];exact h1
 rw[←J]
 obtain⟨g1,aK⟩:∃g1,g1=w.heap.size+1:=⟨_,rfl⟩
 obtain⟨g2,aL⟩:∃g2,g2=w.heap.size+1+1:=⟨_,rfl⟩
 rw[←aL]at a1 aJ ⊢
 rw[←aK]at a1 aH ⊢
 have k1:w.heap.size<g1:=by omega
 have k2:w.heap.size<g2:=by omega
 have k3:g1≠g2:=by omega
 rw[←hx]at a1 aI k1 k2 ⊢
 have HX:Hid _:=hx
 clear J aK aL aX hx
 go_loopw [4] (fun kv wr=>∃k:Nat,k≤m∧kv=.int .i64 k∧wr.heap[x]? =some (.cells #[.slice (some ⟨g1,0,none⟩) m m,.slice (some ⟨g2,0,none⟩) m m,.int .i64 n,.bool a.isNone] 58 (0,0))∧Rw wr g1 m 9 (zL k (lF L n) (.string ⟨#[]⟩))∧Rw wr g2 m 9 (zL k (lF L n) (.string ⟨#[]⟩))∧Below x w wr) (fun kv _=>m-(intOf kv).toNat)
 case atStart=>exact⟨0,by omega,rfl,a1,aH.to (fun j _=>(zo _ _ j).symm),aJ.to (fun j _=>(zo _ _ j).symm),aI⟩
 case round=>
  obtain⟨k,hk,rfl,hO,hA,hW,hB⟩:=hrel
  have o0:wr.cell? ⟨x,0,none⟩=some (.slice (some ⟨g1,0,none⟩) m m):=cell_of_row _ _ _ _ 58 _ hO
  have o1:wr.cell? ⟨x,1,none⟩=some (.slice (some ⟨g2,0,none⟩) m m):=cell_of_row _ _ _ _ 58 _ hO
  by_cases Q:k<m
  ·have c1:=hA.cell k Q
   have f1:=hA.free k
   have n1:x≠g1:=by omega
   have n2:x≠g2:=by omega
   have D:Hid (Rw (wr.setCell ⟨g1,k,none⟩ (.string zCg)) g1 m 9 (zB2 (zL k (lF L n) (.string ⟨#[]⟩)) k (.string zCg))):=hA.put k _
   have G:Hid (Rw (wr.setCell ⟨g1,k,none⟩ (.string zCg)) g2 m 9 (zL k (lF L n) (.string ⟨#[]⟩))):=hW.other _ _ (by simp;omega)
   have A:Hid ((wr.setCell ⟨g1,k,none⟩ (.string zCg)).heap[x]? =some (.cells #[.slice (some ⟨g1,0,none⟩) m m,.slice (some ⟨g2,0,none⟩) m m,.int .i64 n,.bool a.isNone] 58 (0,0))):=by
    show (wr.setCell ⟨g1,k,none⟩ (.string zCg)).heap[x]? =_
    rw[heap_setCell_other wr ⟨g1,k,none⟩ x _ (by simpa using n1)];exact hO
   have N:Hid (Below x w (wr.setCell ⟨g1,k,none⟩ (.string zCg))):=hB.setCell (by simp;omega) _
   have bB:(0:Int)≤(k:Int):=by omega
   have bC:(k:Int)<(m:Int):=by omega
   by_cases a9:k<n
   ·obtain⟨b,off,ha,bA,hc⟩:=HI.out k a9
    subst ha
    have aM:(k:Int)<(n:Int):=by omega
    clear hA hW hO hB
    go_wp2
    rw[show ({ data:= #[98,101,104,105,110,100] }:ByteArray)=zCg from rfl]
    obtain⟨u,R⟩:∃u,u=wr.setCell ⟨g1,k,none⟩ (.string zCg):=⟨_,rfl⟩
    rw[←R]at D G A N ⊢
    clear R c1 f1 o0 o1
    have c1:=D.out.cell k Q
    have f1:=D.out.free k
    have o0:u.cell? ⟨x,0,none⟩=some (.slice (some ⟨g1,0,none⟩) m m):=cell_of_row _ _ _ _ 58 _ A.out
    have ci:u.cell? ⟨b,off+k,none⟩=some (.string (L k)):=(N.out.cell (p:=⟨b,off+k,none⟩) (by have:=HX.out;show b<x;omega)).trans hc
    clear hc
    go_region
    have hV:lF L n k=.string (L k):=by unfold lF;rw[if_pos a9]
    have HV:Hid _:=hV
    have F:Hid (Rw (u.setCell ⟨g1,k,none⟩ (.string (L k))).drew g1 m 9 (zL (k+1) (lF L n) (.string ⟨#[]⟩))):=((D.out.put k _).to (fun j _=>by rw[←zN,hV];unfold zB2;split<;>rfl)).drew
    have Z:Hid (Rw (u.setCell ⟨g1,k,none⟩ (.string (L k))).drew g2 m 9 (zL k (lF L n) (.string ⟨#[]⟩))):=(G.out.other _ _ (by simp;omega)).drew
    have X:Hid ((u.setCell ⟨g1,k,none⟩ (.string (L k))).drew.heap[x]? =some (.cells #[.slice (some ⟨g1,0,none⟩) m m,.slice (some ⟨g2,0,none⟩) m m,.int .i64 n,.bool (some (⟨b,off,none⟩:Addr)).isNone] 58 (0,0))):=by
     show (u.setCell ⟨g1,k,none⟩ (.string (L k))).heap[x]? =_
     rw[heap_setCell_other u ⟨g1,k,none⟩ x _ (by simpa using n1)];exact A.out
    have aE:Hid (Below x w (u.setCell ⟨g1,k,none⟩ (.string (L k))).drew):=(N.out.setCell (by simp;omega) _).drew
    obtain⟨U,aN⟩:∃U,U=(u.setCell ⟨g1,k,none⟩ (.string (L k))).drew:=⟨_,rfl⟩
    rw[←aN]at F Z X aE ⊢
    clear aN c1 f1 o0 ci D G A N
    go_wp2
    have c1:=F.out.cell k Q
    rw[show zL (k+1) (lF L n) (.string ⟨#[]⟩) k=.string (L k) by unfold zL;rw[if_pos (by omega),hV]]at c1
    have c2:=Z.out.cell k Q
    have f2:=Z.out.free k
    have o0:U.cell? ⟨x,0,none⟩=some (.slice (some ⟨g1,0,none⟩) m m):=cell_of_row _ _ _ _ 58 _ X.out
    have o1:U.cell? ⟨x,1,none⟩=some (.slice (some ⟨g2,0,none⟩) m m):=cell_of_row _ _ _ _ 58 _ X.out
    clear hV
    go_region
    have a5:Rw ((U.setCell ⟨g2,k,none⟩ (.string (L k))).drew) g1 m 9 (zL (k+1) (lF L n) (.string ⟨#[]⟩)):=(F.out.other _ _ (by simp;omega)).drew
    have a8:Rw ((U.setCell ⟨g2,k,none⟩ (.string (L k))).drew) g2 m 9 (zL (k+1) (lF L n) (.string ⟨#[]⟩)):=((Z.out.put k _).to (fun j _=>by rw[←zN];congr 1;exact (HV.out).symm)).drew
    have a7:((U.setCell ⟨g2,k,none⟩ (.string (L k))).drew).heap[x]? =some (.cells #[.slice (some ⟨g1,0,none⟩) m m,.slice (some ⟨g2,0,none⟩) m m,.int .i64 n,.bool (some (⟨b,off,none⟩:Addr)).isNone] 58 (0,0)):=by
     show (U.setCell ⟨g2,k,none⟩ (.string (L k))).heap[x]? =_
     rw[heap_setCell_other U ⟨g2,k,none⟩ x _ (by simpa using n2)];exact X.out
    have a6:Below x w ((U.setCell ⟨g2,k,none⟩ (.string (L k))).drew):=(aE.out.setCell (by simp;omega) _).drew
    clear c1 c2 f2 o0 o1
    go_wp2
    go_roundw
    case rel=>exact⟨k+1,by omega,by go_num,a7,a5,a8,a6⟩
    case measure=>simp[intOf];omega
   ·have aM:¬(k:Int)<(n:Int):=by omega
    have hd:decide ((k:Int)<(n:Int))=false:=by simp;omega
    have hV:lF L n k=.string zCg:=by unfold lF;rw[if_neg a9]
    have HV:Hid _:=hV
    clear hA hW hO hB
    go_wp2
    rw[show ({ data:= #[98,101,104,105,110,100] }:ByteArray)=zCg from rfl]
    have F:Hid (Rw (wr.setCell ⟨g1,k,none⟩ (.string zCg)) g1 m 9 (zL (k+1) (lF L n) (.string ⟨#[]⟩))):=D.out.to (fun j _=>by rw[←zN,hV])
    obtain⟨u,R⟩:∃u,u=wr.setCell ⟨g1,k,none⟩ (.string zCg):=⟨_,rfl⟩
    rw[←R]at F G A N ⊢
    clear R c1 f1 o0 o1 D
    have c1:=F.out.cell k Q
    rw[show zL (k+1) (lF L n) (.string ⟨#[]⟩) k=.string zCg by unfold zL;rw[if_pos (by omega),hV]]at c1
    have c2:=G.out.cell k Q
    have f2:=G.out.free k
    have o0:u.cell? ⟨x,0,none⟩=some (.slice (some ⟨g1,0,none⟩) m m):=cell_of_row _ _ _ _ 58 _ A.out
    have o1:u.cell? ⟨x,1,none⟩=some (.slice (some ⟨g2,0,none⟩) m m):=cell_of_row _ _ _ _ 58 _ A.out
    clear hV
    go_region
    have a5:Rw ((u.setCell ⟨g2,k,none⟩ (.string (zCg))).drew) g1 m 9 (zL (k+1) (lF L n) (.string ⟨#[]⟩)):=(F.out.other _ _ (by simp;omega)).drew
    have a8:Rw ((u.setCell ⟨g2,k,none⟩ (.string (zCg))).drew) g2 m 9 (zL (k+1) (lF L n) (.string ⟨#[]⟩)):=((G.out.put k _).to (fun j _=>by rw[←zN];congr 1;exact (HV.out).symm)).drew
    have a7:((u.setCell ⟨g2,k,none⟩ (.string (zCg))).drew).heap[x]? =some (.cells #[.slice (some ⟨g1,0,none⟩) m m,.slice (some ⟨g2,0,none⟩) m m,.int .i64 n,.bool a.isNone] 58 (0,0)):=by
     show (u.setCell ⟨g2,k,none⟩ (.string (zCg))).heap[x]? =_
     rw[heap_setCell_other u ⟨g2,k,none⟩ x _ (by simpa using n2)];exact A.out
    have a6:Below x w ((u.setCell ⟨g2,k,none⟩ (.string (zCg))).drew):=(N.out.setCell (by simp;omega) _).drew
    clear c1 c2 f2 o0 o1
    go_wp2
    go_roundw
    case rel=>exact⟨k+1,by omega,by go_num,a7,a5,a8,a6⟩
    case measure=>simp[intOf];omega
  ·have e:k=m:=by omega
   subst e
   have hm:=HM.out
   go_wp2
   go_ret
   subst hm
   have aW:=HX.out
   subst aW
   exact⟨g1,g2,rfl,k1,k2,⟨hO,hA.to (fun j hj=>by simp[zL,hj]),hW.to (fun j hj=>by simp[zL,hj]),k3⟩,hB⟩
theorem zJj (L:Nat→ByteArray)(x g1 g2 n:Nat)(nl:Bool)(w:World)(A:n≤4398046511104)(u:LentAt w x g1 g2 n nl L)(j:nl=true→n=0):
 Calls Tryz.prog 8 #[.pointer (some ⟨x,0,none⟩)] w fun e w'=>∃v,e=.returned v∧(∃q,w'=w.drewN q)∧((v=.slice none 0 0∧n=0)∨v=.slice (some ⟨g1,0,none⟩) n (n+8)):=by
 have D:w.cell? ⟨x,0,none⟩=some (.slice (some ⟨g1,0,none⟩) (n+8) (n+8)):=cell_of_row _ _ _ _ 58 _ u.obj
 have F:w.cell? ⟨x,2,none⟩=some (.int .i64 n):=cell_of_row _ _ _ _ 58 _ u.obj
 have G:w.cell? ⟨x,3,none⟩=some (.bool nl):=cell_of_row _ _ _ _ 58 _ u.obj
 clear u
 cases nl with
 |true=>
  obtain rfl:n=0:=j rfl
  clear j
  go_enter Tryz.func8,Tryz.ntmps8
  go_wp2
  go_ret
  exact⟨_,rfl,⟨0,rfl⟩,.inl ⟨rfl,trivial⟩⟩
 |false=>
  clear j
  go_enter Tryz.func8,Tryz.ntmps8
  go_wp2
  go_quiet (fail)
  go_wp2
  go_ret
  exact⟨_,rfl,⟨_,rfl⟩,.inr rfl⟩
theorem zEM (A B:Nat→ByteArray)(n b G F u:Nat)(w:World)(Z:n≤9000000000000)(N:Cl w b n (tI A))(Q:Cl w F n (tI B))(h:∀i,i<n→A i=B i):
 Calls Tryz.prog 17 #[.slice (some ⟨b,0,none⟩) n G,.slice (some ⟨F,0,none⟩) n u] w fun e w'=>e=.returned (.bool true)∧∃q,w'=w.drewN q:=by
 have W:Hid _:=N
 have HB:Hid _:=Q
 have H:Hid _:=h
 clear N Q h
 go_enter Tryz.func17,Tryz.ntmps17
 go_wp2
 go_loopw [5] (fun J wr=>∃i q:Nat,i≤n∧J=.int .i64 i∧wr=w.drewN q) (fun J _=>n-(intOf J).toNat)
 case atStart=>exact⟨0,0,by omega,rfl,rfl⟩
 case round=>
  obtain⟨i,q,hi,rfl,D⟩:=hrel
  by_cases j:i<n
  ·have c1:wr.cell? ⟨b,i,none⟩=some (.string (A i)):=by rw[D];exact W.out i j
   have c2:wr.cell? ⟨F,i,none⟩=some (.string (A i)):=by rw[D,H.out i j];exact HB.out i j
   have X:Hid _:=D
   clear D
   have R:(0:Int)≤(i:Int):=by omega
   have U:(i:Int)<(n:Int):=by omega
   go_wp2
   go_quiet (fail)
   go_wp2
   go_roundw
   case rel=>exact⟨i+1,_,by omega,by go_num,by rw[X.out,World.drewN_drewN]⟩
   case measure=>simp[intOf];omega
  ·go_wp2
   go_ret
   exact⟨rfl,q,rfl⟩
theorem zN7 (j u:Option Addr)(c1 c2:Nat)(w:World):
 Calls Tryz.prog 17 #[.slice j 0 c1,.slice u 0 c2] w fun e w'=>e=.returned (.bool true)∧∃q,w'=w.drewN q:=by
 go_enter Tryz.func17,Tryz.ntmps17
 go_wp2
 refine wp_loop_rounds 1 ?_
 rw[rounds_succ]
 go_wp2
 go_ret
 exact⟨rfl,0,rfl⟩
def gn:ByteArray:=⟨#[103,111,110,101]⟩
theorem zIg (L:Nat→ByteArray)(x g1 g2 n B:Nat)(nl:Bool)(w:World)(hn:n≤4398046511104)(J:LentAt w x g1 g2 n nl L)(hB:B≤g1)(hx:x≠g1):
 Calls Tryz.prog 9 #[.pointer (some ⟨x,0,none⟩)] w fun e w'=>e=.returned (.bool true)∧Below B w w'∧∀q,q≠g1→w'.heap[q]? =w.heap[q]? :=by
 obtain⟨m,N⟩:∃m,m=n+8:=⟨_,rfl⟩
 have aB:m≤4398046511112:=by omega
 have A:w.heap[x]? =some (.cells #[.slice (some ⟨g1,0,none⟩) m m,.slice (some ⟨g2,0,none⟩) m m,.int .i64 n,.bool nl] 58 (0,0)):=by rw[N];exact J.obj
 have o0:w.cell? ⟨x,0,none⟩=some (.slice (some ⟨g1,0,none⟩) m m):=cell_of_row _ _ _ _ 58 _ A
 have o1:w.cell? ⟨x,1,none⟩=some (.slice (some ⟨g2,0,none⟩) m m):=cell_of_row _ _ _ _ 58 _ A
 have Q:Hid (Rw w g1 m 9 (lF L n)):=by show Rw w g1 m 9 (lF L n);rw[N];exact J.all
 have HW:Hid (Rw w g2 m 9 (lF L n)):=by show Rw w g2 m 9 (lF L n);rw[N];exact J.want
 have HO:Hid _:=A
 clear J N A
 go_enter Tryz.func9,Tryz.ntmps9
 go_wp2
 go_quiet (first|(go_at_call 17;exact Calls.quiet_of (zEM (fun i=>if i<n then L i else zCg) (fun i=>if i<n then L i else zCg) m g1 m g2 m _ (by omega) (Q.out.drewN _).cl (HW.out.drewN _).cl (fun _ _=>rfl))))
 obtain⟨u,j⟩:∃u,u=w.drewN nq:=⟨_,rfl⟩
 rw[←j]
 have R:Hid (Rw u g1 m 9 (lF L n)):=by show Rw u g1 m 9 (lF L n);rw[j];exact Q.out.drewN nq
 have Z:Hid (u.heap[x]? =some (.cells #[.slice (some ⟨g1,0,none⟩) m m,.slice (some ⟨g2,0,none⟩) m m,.int .i64 n,.bool nl] 58 (0,0))):=by show u.heap[x]? =_;rw[j];exact HO.out
 have a2:Hid (∀q,q≠g1→u.heap[q]? =w.heap[q]?):=by intro q _;rw[j];rfl
 have W:Hid (Below B w u):=by show Below B w u;rw[j];exact below_drewN (Below.refl _ _) nq
 clear j o0 o1 Q HW HO
 go_wp2
 go_loopw [4] (fun kv wr=>∃(k:Nat) (f:Nat→Value),k≤m∧kv=.int .i64 k∧wr.heap[x]? =some (.cells #[.slice (some ⟨g1,0,none⟩) m m,.slice (some ⟨g2,0,none⟩) m m,.int .i64 n,.bool nl] 58 (0,0))∧Rw wr g1 m 9 f∧Below B w wr∧∀q,q≠g1→wr.heap[q]? =w.heap[q]?) (fun kv _=>m-(intOf kv).toNat)
 case atStart=>exact⟨0,_,by omega,rfl,Z.out,R.out,W.out,a2.out⟩
 case round=>
  obtain⟨k,f,hk,rfl,A,G,D,F⟩:=hrel
  have o0:wr.cell? ⟨x,0,none⟩=some (.slice (some ⟨g1,0,none⟩) m m):=cell_of_row _ _ _ _ 58 _ A
  by_cases a5:k<m
  ·have c1:=G.cell k a5
   have f1:=G.free k
   have a1:Hid ((wr.setCell ⟨g1,k,none⟩ (.string gn)).heap[x]? =some (.cells #[.slice (some ⟨g1,0,none⟩) m m,.slice (some ⟨g2,0,none⟩) m m,.int .i64 n,.bool nl] 58 (0,0))):=by
    show (wr.setCell ⟨g1,k,none⟩ (.string gn)).heap[x]? =_
    rw[heap_setCell_other wr ⟨g1,k,none⟩ x _ (by simpa using hx)];exact A
   have U:Hid (Rw (wr.setCell ⟨g1,k,none⟩ (.string gn)) g1 m 9 (zB2 f k (.string gn))):=G.put k _
   have X:Hid (Below B w (wr.setCell ⟨g1,k,none⟩ (.string gn))):=D.setCell (by simpa using hB) _
   have a4:Hid (∀q,q≠g1→(wr.setCell ⟨g1,k,none⟩ (.string gn)).heap[q]? =w.heap[q]?):=fun q j=>by rw[heap_setCell_other wr ⟨g1,k,none⟩ q _ (by simpa using j)];exact F q j
   clear A G D F
   go_wp2
   go_roundw
   case rel=>exact⟨k+1,_,by omega,by go_num,a1.out,U.out,X.out,a4.out⟩
   case measure=>simp[intOf];omega
  ·go_wp2
   go_ret
   exact⟨rfl,D,F⟩
abbrev Out:Type:=(Int×Int) ⊕ (Nat×(Nat→ByteArray))
abbrev Out.bad (k i:Int):Out:=.inl (k,i)
abbrev Out.good (n:Nat)(T:Nat→ByteArray):Out:=.inr (n,T)
def zKQ (w:World)(o:Out)(x y:Value)(w':World):Prop:=match o with
 | .inl (k,i)=>∃g c,x=.slice none 0 0∧y=.slice (some ⟨g,0,none⟩) 1 c∧w'.cell? ⟨g,0,none⟩=some (.int .i64 k)∧w'.cell? ⟨g,1,none⟩=some (.int .i64 i)∧Below w.heap.size w w'
 | .inr (n,T)=>y=.slice none 0 0∧w'.ownsRow w.heap.size 9 1 x n ((List.range n).map fun i=>.string (T i))∧Below w.heap.size w w'
theorem zKv (w w':World)(k i:Int)(hb:Below w.heap.size w w'):zKQ w (.bad k i) (.slice none 0 0) (.slice (some ⟨w'.heap.size,0,none⟩) 1 1) (w'.alloc (.cells #[.int .i64 k,.int .i64 i] 121)):=
 ⟨w'.heap.size,1,rfl,rfl,cell_of_row _ _ 0 _ 121 _ (heap_alloc_new _ _),cell_of_row _ _ 1 _ 121 _ (heap_alloc_new _ _),hb.alloc hb.size _⟩
theorem zPB (k m:Nat)(w:World)(j:1≤k)(u:k+m≤255):
 Calls Tryz.prog 159 #[.int .i64 k,.int .i64 m] w fun e w'=>e=.returned (.slice none 0 0)∧w'=w:=by
 have A:(1:Int)≤(k:Int):=by omega
 have D:(k:Int)≤255:=by omega
 have F:(0:Int)≤(m:Int):=by omega
 have G:(m:Int)≤255-(k:Int):=by omega
 go_enter Tryz.func159,Tryz.ntmps159
 go_wp2
 go_ret
 exact⟨rfl,rfl⟩
theorem zAk (k i:Int)(w:World):Calls Tryz.prog 41 #[.int .i64 k,.int .i64 i] w fun e w'=>∃g,e=.returned (.iface 150 (.pointer (some ⟨g,0,none⟩)))∧w'.heap[g]? =some (.cells #[.int .i64 k,.int .i64 i,.nilIface] 152 (0,0))∧Below w.heap.size w w':=by
 refine (zM2 k i w).mono ?_
 rintro e w' ⟨rfl,rfl⟩
 exact⟨_,rfl,heap_alloc_new _ _,(Below.refl _ _).alloc (Nat.le_refl _) _⟩
theorem zFs (k i:Int)(a:Addr)(w:World):Calls Tryz.prog 75 #[.int .i64 k,.int .i64 i,.iface 150 (.pointer (some a))] w fun e w'=>∃g,e=.returned (.iface 150 (.pointer (some ⟨g,0,none⟩)))∧w'.heap[g]? =some (.cells #[.int .i64 k,.int .i64 i,.iface 150 (.pointer (some a))] 152 (0,0))∧Below w.heap.size w w':=by
 go_enter Tryz.func75,Tryz.ntmps75
 go_wp2
 go_ret
 exact⟨_,rfl,heap_alloc_new _ _,(Below.refl _ _).alloc (Nat.le_refl _) _⟩
theorem zAJ {w:World}{base A:Nat}{e:TypeId}{size:Nat}{v:Value}{n:Nat}{D:List Value}(h:w.ownsRow base e size v n D)(hb:A≤base):w.ownsRow A e size v n D:=by
 refine⟨h.1,?_⟩
 rcases h.2 with F|⟨g,u,cur,J,G,j⟩
 ·exact .inl F
 ·exact .inr ⟨g,u,cur,J,Nat.le_trans hb G,j⟩
set_option maxHeartbeats 4000000
theorem zLW (s:ByteArray)(z c:Nat)(w:World)(hz:0<z)(U:s.size≤100000)(D:s.size/z=c):
 Calls Tryz.prog 100 #[.string s,.int .i64 z] w fun e w'=>e=.returned (.slice (some ⟨w.heap.size,0,none⟩) c c)∧Rw w' w.heap.size c 9 (tX (pc s z))∧Below w.heap.size w w':=by
 have hd:=zAf s.size z (by omega)
 rw[D]at hd
 have a7:((z:Int) == 0)=false:=by simp;omega
 have F:c*z≤s.size:=by rw[←D];exact Nat.div_mul_le_self _ _
 have a2:c≤100000:=by rw[←D];exact Nat.le_trans (Nat.div_le_self _ _) U
 have a5:=run_make_row' (P:=Tryz.prog) 22 9 (.string ⟨#[]⟩) 16 Tryz.underlying22 zAl rfl .i64 .i64 c (by omega) (by omega)
 have Z:Hid _:=F
 clear F D
 go_enter Tryz.func100,Tryz.ntmps100
 go_wp2
 go_loopw [14] (fun X wr=>∃i:Nat,i≤c∧X=.int .i64 i∧Below w.heap.size w wr∧Rw wr w.heap.size c 9 (zL i (tX (pc s z)) (.string ⟨#[]⟩))) (fun X _=>c-(intOf X).toNat)
 case atStart=>exact⟨0,by omega,rfl,(Below.refl _ _).alloc (Nat.le_refl _) _,(Rw.made w c 9 (.string ⟨#[]⟩)).to (fun j _=>(zo _ _ j).symm)⟩
 case round=>
  obtain⟨i,hi,rfl,hb,G⟩:=hrel
  by_cases R:i<c
  ·have c1:=G.cell i R
   have c2:=G.free i
   have N:(i+1)*z≤s.size:=Nat.le_trans (Nat.mul_le_mul_right z (by omega)) Z.out
   have Q:i*z≤(i+1)*z:=Nat.mul_le_mul_right z (by omega)
   obtain⟨lo,A⟩:∃lo,i*z=lo:=⟨_,rfl⟩
   obtain⟨up,u⟩:∃up,(i+1)*z=up:=⟨_,rfl⟩
   have e1:(i:Int)*(z:Int)=((lo:Nat):Int):=by rw[←A];simp
   have e2:((i:Int)+1)*(z:Int)=((up:Nat):Int):=by rw[←u];simp
   rw[A,u]at Q
   rw[u]at N
   have J:Hid (pc s z i=s.extract lo up):=by show pc s z i=s.extract lo up;unfold pc;rw[A,u]
   clear A u
   have a6:∀W,(Instr.slice 9 (.string s) (some (.int .i64 ((lo:Nat):Int))) (some (.int .i64 ((up:Nat):Int))) none).run Tryz.prog W=.ok (.string (s.extract lo up)) W:=fun W=>by
    rw[run_slice_string W 9 s .i64 .i64 _ _ Tryz.underlying9 (by omega) (by omega) (by omega),Int.toNat_natCast,Int.toNat_natCast]
   have a1:(i:Int)<(c:Int):=by omega
   go_wp2
   go_roundw
   case rel=>exact⟨i+1,by omega,by go_num,hb.setCell (Nat.le_refl _) _,(G.put i _).to (fun j _=>by rw[←J.out,←zN];rfl)⟩
   case measure=>simp[intOf];omega
  ·have e:i=c:=by omega
   subst e
   go_wp2
   go_ret
   exact⟨rfl,G.to (fun j hj=>by simp[zL,hj]),hb⟩
theorem zGo (s:RS)(j:s.wrong=false)(u:s.next≤s.text.size):s.bytes (s.text.size-s.next)=({ s with field:=s.next,next:=s.text.size },s.text.extract s.next s.text.size):=by
 unfold RS.bytes
 rw[j]
 simp only[Bool.false_eq_true,if_false]
 rw[if_neg (by omega),show s.next+(s.text.size-s.next)=s.text.size by omega]
theorem zP1 (r g B K M C V num cn first en size c:Nat)(Q:Option Addr)(R:Nat)(es:List (ByteArray×Nat))(root lst lv u:ByteArray)(s:RS)(w:World)(h:RI r s w)(hw:s.wrong=false)(ht:s.text.size≤60000)
 (hg:w.heap[g]? =some (.cells (zBE root lst K M C V (.slice Q es.length R) lv num 0 (.slice none 0 0)) 157 (0,0))) (ho:w.ownsRow B 131 2 (.slice Q es.length R) es.length (enV es)) (hl:es.length≤16) (bZ:zM es≤4096)
 (hK:1≤K) (bK:K+M≤255) (hC:1≤C) (aX:C≤64) (hV:1≤V) (cJ:V≤16) (bY:num<V) (b2:nst (K*C) (zM es)*(K+M)=cn) (b3:cn≤512) (A:num*cn/V=first) (a6:(num+1)*cn/V=en) (F:(en-first)*C=size)
 (D:s.text.extract s.next s.text.size=u) (b1:u.size/C=c):
 Calls Tryz.prog 101 #[.pointer (some ⟨r,0,none⟩),.pointer (some ⟨g,0,none⟩)] w fun e w'=>
  (size<u.size∧∃q,e=.returned (.iface 150 (.pointer (some ⟨q,0,none⟩)))∧w'.heap[q]? =some (.cells #[.int .i64 7,.int .i64 (s.next+size:Nat),.nilIface] 152 (0,0))∧Fr (fun j=>j=r) w w')
  ∨(u.size≤size∧e=.returned .nilIface∧∃q,w.heap.size≤q∧w'.heap[g]? =some (.cells (zBE root lst K M C V (.slice Q es.length R) lv num first (.slice (some ⟨q,0,none⟩) c c)) 157 (0,0))∧Rw w' q c 9 (tX (pc u C))∧w'.ownsRow B 131 2 (.slice Q es.length R) es.length (enV es)∧Fr (fun j=>j=r∨j=g) w w'):=by
 have aA:g<w.heap.size:=(Array.getElem?_eq_some_iff.1 hg).1
 have cP:r<w.heap.size:=(Array.getElem?_eq_some_iff.1 h.row).1
 have bM:g≠r:=fun e=>by have h1:=hg;rw[e,h.row]at h1;simp at h1
 have c2:w.cell? ⟨g,2,none⟩=some (.int .i64 K):=cell_of_row _ _ _ _ 157 _ hg
 have c3:w.cell? ⟨g,3,none⟩=some (.int .i64 M):=cell_of_row _ _ _ _ 157 _ hg
 have c4:w.cell? ⟨g,4,none⟩=some (.int .i64 C):=cell_of_row _ _ _ _ 157 _ hg
 have c5:w.cell? ⟨g,5,none⟩=some (.int .i64 V):=cell_of_row _ _ _ _ 157 _ hg
 obtain⟨p,hp⟩:∃p,w.heap.size=p:=⟨_,rfl⟩
 obtain⟨W,hW⟩:∃W,w.alloc (.cells #[.int .i64 K,.int .i64 M,.int .i64 C,.int .i64 V] 81)=W:=⟨_,rfl⟩
 have Z:Below w.heap.size w W:=by rw[←hW];exact (Below.refl _ _).alloc (Nat.le_refl _) _
 have aJ:W.heap[p]? =some (.cells #[.int .i64 K,.int .i64 M,.int .i64 C,.int .i64 V] 81 (0,0)):=by rw[←hW,←hp];exact heap_alloc_new _ _
 have aN:Hid _:=Z
 have aW:Hid (w.heap.size=p):=hp
 have aK:p<W.heap.size:=(Array.getElem?_eq_some_iff.1 aJ).1
 have a2:Hid (∀X:World,Below W.heap.size W X→X.cell? ⟨p,3,none⟩=some (.int .i64 V)):=fun X hX=>cell_of_row X p 3 #[.int .i64 K,.int .i64 M,.int .i64 C,.int .i64 V] 81 (0,0) (by rw[hX.block p aK];exact aJ)
 have aU:Hid (∀X:World,X.heap[p]? =W.heap[p]? →X.cell? ⟨p,2,none⟩=some (.int .i64 C)):=fun X hX=>cell_of_row X p 2 #[.int .i64 K,.int .i64 M,.int .i64 C,.int .i64 V] 81 (0,0) (by rw[hX];exact aJ)
 have b5:W.heap[g]? =some (.cells (zBE root lst K M C V (.slice Q es.length R) lv num 0 (.slice none 0 0)) 157 (0,0)):=by rw[Z.block g aA];exact hg
 have J:Hid (∀X:World,Below W.heap.size W X→X.cell? ⟨g,8,none⟩=some (.int .i64 num)):=fun X hX=>cell_of_row X g 8 (zBE root lst K M C V (.slice Q es.length R) lv num 0 (.slice none 0 0)) 157 (0,0) (by rw[hX.block g (Nat.lt_of_lt_of_le aA Z.size)];exact b5)
 have H1:Hid (∀X:World,Below W.heap.size W X→Calls Tryz.prog 102 #[.pointer (some ⟨g,0,none⟩)] X fun e w'=>e=.returned (.int .i64 cn)∧Below X.heap.size X w'):=fun X hX=>by
  have hx:X.heap[g]? =some (.cells (zBE root lst K M C V (.slice Q es.length R) lv num 0 (.slice none 0 0)) 157 (0,0)):=by rw[hX.block g (Nat.lt_of_lt_of_le aA Z.size)];exact b5
  rw[←b2]
  exact zHW g B es.length R K M C V Q es X (cell_of_row _ _ _ _ 157 _ hx) (cell_of_row _ _ _ _ 157 _ hx) (cell_of_row _ _ _ _ 157 _ hx) (cell_of_row _ _ _ _ 157 _ hx) (cell_of_row _ _ _ _ 157 _ hx) rfl (zI (zI ho Z) hX) (fun i=>Nat.le_trans (zQ _ i) (by omega)) (by omega) hK bK hC aX
 have H2:Hid (∀X:World,Calls Tryz.prog 139 #[.int .i64 V,.int .i64 cn,.int .i64 num] X fun e w'=>e=.returned (.tuple #[.int .i64 first,.int .i64 en])∧Below X.heap.size X w'):=fun X=>by
  refine (zCX V cn num X (by omega) (by omega) (by omega) (by omega)).mono ?_
  rintro e w' ⟨rfl,q,rfl⟩
  exact⟨by rw[A,a6],below_drewN (Below.refl _ _) _⟩
 have q5:=a2.out W (Below.refl _ _)
 have q8:=J.out W (Below.refl _ _)
 go_enter Tryz.func101,Tryz.ntmps101
 go_wp2_with fail
 try rw[hW]
 try rw[hp]
 clear hW hp c2 c3 c4 c5
 go_region_held3 (fun G=>G.cell? ⟨p,3,none⟩=some (.int .i64 V)∧G.cell? ⟨g,8,none⟩=some (.int .i64 num)) (go_keep) (first|(go_at_call 102;refine Calls.mono (H1.out _ (by first|exact Below.refl _ _|exact (Below.refl _ _).drew)) ?_;rintro e w1 ⟨rfl,aH⟩;have U:Below W.heap.size W w1:=(by first|exact aH|exact ((Below.refl _ _).drew).trans aH);have q2:=a2.out w1 U;have q3:=J.out w1 U)|(go_at_call 139;refine Calls.mono (H2.out _) ?_;rintro e G ⟨rfl,hb2⟩;have N:Below W.heap.size W G:=(U.trans (hb2.mono U.size));have u2:=a2.out G N;have u3:=J.out G N))
 have aM:Hid (Below w.heap.size w G):=aN.out.trans (N.mono aN.out.size)
 have aZ:RI r s G:=h.low aM.out
 have bF:Hid _:=zIS r s G aZ
 have bH:Hid (Calls Tryz.prog 140 #[.pointer (some ⟨r,0,none⟩)] G fun e w'=>e=.returned (.string u)∧Fr (fun j=>j=r) G w'):=by
  refine Calls.mono (zPI r s G aZ) ?_
  rintro e w' ⟨rfl,hD⟩
  rw[zGo s hw h.nt,D]at*
  exact⟨rfl,hD.2⟩
 have cQ:u.size≤60000:=by rw[←D,ByteArray.size_extract];omega
 have bD:Hid _:=b1
 clear b1
 have cL:first≤en:=by rw[←A,←a6];exact Nat.div_le_div_right (Nat.mul_le_mul_right _ (by omega))
 have cK:en≤512:=by rw[←a6];exact Nat.le_trans (Nat.div_le_div_right (Nat.mul_le_mul (show num+1≤V by omega) b3)) (by rw[Nat.mul_div_cancel_left _ (by omega)];exact Nat.le_refl _)
 have cR:size≤32768:=by rw[←F];exact Nat.le_trans (Nat.mul_le_mul (show en-first≤512 by omega) aX) (by omega)
 have e3:((en:Int)-(first:Int))*(C:Int)=((size:Nat):Int):=by rw[←F,show (en:Int)-(first:Int)=((en-first:Nat):Int) by omega];simp
 have bJ:Hid (W.heap.size≤G.heap.size):=N.size
 have aV:Hid (G.heap[p]? =W.heap[p]?):=N.block p aK
 have d2:=aU.out G aV.out
 have cO:s.next≤60000:=Nat.le_trans h.nt ht
 clear aH hb2 U N q2 q3 u2 u3 q5 q8 H1 H2 J a2 A a6 F b2 D
 go_wp2_with fail
 refine Calls.mono bF.out ?_
 rintro e cY ⟨rfl,rfl⟩
 go_wp2_with fail
 refine Calls.mono bH.out ?_
 rintro e w3 ⟨rfl,aY⟩
 have aO:Hid _:=aY
 clear aY
 have a5:Fr (fun j=>j=r) w w3:=(Fr.below aM.out).trans' aO.out
 have b4:w3.heap[g]? =some (.cells (zBE root lst K M C V (.slice Q es.length R) lv num 0 (.slice none 0 0)) 157 (0,0)):=by rw[a5.old g aA bM];exact hg
 have b7:w3.ownsRow B 131 2 (.slice Q es.length R) es.length (enV es):=zD ho (fun q hq=>a5.old q (zG ho q hq) (fun e=>by
  obtain⟨cur,hc⟩:=zB ho q hq
  have h2:=h.row
  rw[←e,hc]at h2;simp at h2))
 have aP:Hid _:=a5
 have a1:Hid _:=b4
 have aS:Hid _:=b7
 have bP:p≠r:=by rw[←aW.out];omega
 have bO:p≠g:=by rw[←aW.out];omega
 have bE:Hid (w3.heap[p]? =W.heap[p]?):=by show _=_;rw[aO.out.old p (Nat.lt_of_lt_of_le aK bJ.out) bP,aV.out]
 clear d2 a5 b4 b7 h hg ho
 by_cases b0:size<u.size
 ·have bL:(size:Int)<(u.size:Int):=by omega
  go_wp2_with fail
  refine Calls.mono (zAk 7 _ w3) ?_
  rintro e w4 ⟨q,rfl,hq,hB⟩
  have HQ:Hid _:=hq
  have bC:Hid _:=hB
  clear hq hB
  go_wp2_with fail
  go_ret
  exact .inl ⟨b0,q,rfl,by rw[HQ.out];simp,aP.out.thenBelow bC.out⟩
 ·have bL:¬(size:Int)<(u.size:Int):=by omega
  have a9:w3.cell? ⟨g,9,none⟩=some (.int .i64 0):=cell_of_row _ _ _ _ 157 _ a1.out
  have b9:=frozen_of_row w3 g 9 _ 157 a1.out
  obtain⟨X,hX⟩:∃X,w3.setCell ⟨g,9,none⟩ (.int .i64 first)=X:=⟨_,rfl⟩
  have aF:Hid (X.heap[g]? =some (.cells (zBE root lst K M C V (.slice Q es.length R) lv num first (.slice none 0 0)) 157 (0,0))):=by show _=_;rw[←hX];exact zH _ _ _ _ _ _ _ a1.out
  have dX:X.cell? ⟨p,2,none⟩=some (.int .i64 C):=aU.out X (by rw[←hX,zC _ _ _ _ _ bO];exact bE.out)
  have aQ:Hid (Fr (fun j=>j=r∨j=g) w X):=by show Fr _ _ _;rw[←hX];exact (aP.out.mono (fun j _ hj=>.inl hj)).set (.inl (.inr rfl)) _ _
  have aT:Hid (X.ownsRow B 131 2 (.slice Q es.length R) es.length (enV es)):=by
   show World.ownsRow _ _ _ _ _ _ _
   rw[←hX]
   exact zD aS.out (fun q hq=>zC _ _ _ _ _ (fun e=>by
    obtain⟨cur,hc⟩:=zB aS.out q hq
    rw[e,a1.out]at hc;simp at hc))
  have HC:Hid _:=zLW u C c X (by omega) (by omega) bD.out
  go_wp2_with fail
  clear hX a9 b9
  refine Calls.mono HC.out ?_
  rintro e w5 ⟨rfl,hR,hB⟩
  have a8:w5.heap[g]? =_:=(hB.block g (Array.getElem?_eq_some_iff.1 aF.out).1).trans aF.out
  have cA:w5.cell? ⟨g,10,none⟩=some (.slice none 0 0):=cell_of_row _ _ _ _ 157 _ a8
  have cC:=frozen_of_row w5 g 10 _ 157 a8
  have aR:Hid _:=a8
  have aD:Hid _:=hB
  have bG:Hid _:=hR
  clear a8 hB hR dX
  go_wp2_with fail
  go_ret
  have cM:g<X.heap.size:=(Array.getElem?_eq_some_iff.1 aF.out).1
  refine .inr ⟨by omega,rfl,X.heap.size,aQ.out.size,zH _ _ _ _ _ _ _ aR.out,?_,?_,(aQ.out.thenBelow aD.out).set (.inl (.inr rfl)) _ _⟩
  ·show (World.heap _)[X.heap.size]? =_
   rw[zC _ _ _ _ _ (by omega)]
   exact bG.out
  ·exact zD (zI aT.out aD.out) (fun q hq=>zC _ _ _ _ _ (fun e=>by
    obtain⟨cur,hc⟩:=zB (zI aT.out aD.out) q hq
    rw[e,aR.out]at hc;simp at hc))
theorem zBI {s:RS}{n:Nat}(h:(s.bytes n).1.wrong=false):(s.bytes n).2.size=n:=by
 have j:=zR h
 unfold RS.bytes at h ⊢
 rw[j]at h ⊢
 simp only[Bool.false_eq_true,if_false]at h ⊢
 split at h
 ·cases h
 ·rename_i h2
  rw[if_neg h2]
  show (s.text.extract s.next (s.next+n)).size=n
  rw[ByteArray.size_extract]
  omega
theorem zGn {s j:RS}(h:Adv s j)(b:Prop) [Decidable b]:Adv s (if b then j.refuse else j):=by
 split
 ·exact h
 ·exact h
theorem zGA (s:RS):Adv s s.told.st:=by
 have u:Adv s ((s.word ⟨#[86,79,76,49]⟩).bytes 32).1:=(zAR s _).trans (zZ _ _)
 have A:=u.trans (zAC _)
 have j:=A.trans (zk _ 0 ((((s.word ⟨#[86,79,76,49]⟩).bytes 32).1.list.V:Int)-1))
 unfold RS.told
 simp only[]
 split
 ·exact j
 ·exact (zGn j _).trans (zZ _ _)
theorem zKH (s:RS):s.told.lst.size≤s.text.size:=by
 have j:Adv s ((s.word ⟨#[86,79,76,49]⟩).bytes 32).1:=(zAR s _).trans (zZ _ _)
 have u:=j.trans (zAC _)
 unfold RS.told
 simp only[]
 split<;>(show (ByteArray.extract _ _ _).size≤_;rw[ByteArray.size_extract,u.1];omega)
theorem zAQ (s:RS):s.told.L.es.length≤16∧zM s.told.L.es≤4096:=by
 unfold RS.told
 simp only[]
 split<;>exact⟨zDG _,zDH _⟩
theorem zMB (a b:Nat)(h:(a:Int)≤(b:Int)-1):a<b:=by omega
structure zt (T:TT):Prop where
 k1:1≤T.L.K
 km:T.L.K+T.L.M≤255
 c1:1≤T.L.C
 c64:T.L.C≤64
 v1:1≤T.L.V
 v16:T.L.V≤16
 num:T.num<T.L.V
 cnt:T.L.cnt≤512
 lv:T.lv.size=T.L.cnt*32
theorem zIm {s:RS}(h:s.told.st.wrong=false):zt s.told:=by
 unfold RS.told at h ⊢
 simp only[]at h ⊢
 split at h
 ·rename_i hw
  have u:(((s.word ⟨#[86,79,76,49]⟩).bytes 32).1.list.st.num 0 ((((s.word ⟨#[86,79,76,49]⟩).bytes 32).1.list.V:Int)-1)).1.wrong=false:=h
  rw[hw]at u;cases u
 ·rename_i hw
  rw[if_neg hw]
  have A:(((s.word ⟨#[86,79,76,49]⟩).bytes 32).1.list.st.num 0 ((((s.word ⟨#[86,79,76,49]⟩).bytes 32).1.list.V:Int)-1)).1.wrong=false:=by simpa using hw
  have D:=ze A
  have j:=zCK D.1
  have F:=zR h
  have G:=zBI h
  have J:((s.word ⟨#[86,79,76,49]⟩).bytes 32).1.list.cnt≤512:=by
   by_cases N:512<((s.word ⟨#[86,79,76,49]⟩).bytes 32).1.list.cnt
   ·rw[if_pos N]at F;cases F
   ·omega
  exact⟨j.2.1,j.2.2.1,j.2.2.2.1,j.2.2.2.2.1,j.2.2.2.2.2.1,j.2.2.2.2.2.2,zMB _ _ D.2.2,J,G⟩
def RS.on (t:ByteArray):RS:=⟨t,0,0,false⟩
def zMo (t:ByteArray):ByteArray:=t.extract 0 (RS.on t).told.st.next
def tCk (t:ByteArray):RS×ByteArray:=(RS.on t).told.st.bytes 32
def zX (t:ByteArray):ByteArray:=t.extract (tCk t).1.next t.size
def TT.first (T:TT):Nat:=T.num*T.L.cnt/T.L.V
def TT.size (T:TT):Nat:=((T.num+1)*T.L.cnt/T.L.V-T.first)*T.L.C
def rdE (kt:Nat→Int)(t:ByteArray):Option (Nat×Nat):=
 if 60000<t.size then some (4,t.size)
 else if (tCk t).1.wrong then some (7,(tCk t).1.field)
 else if (tCk t).2=ofT kt (⟨#[3]⟩++zMo t) then
  if (RS.on t).told.root=zAX (ofT kt) (RS.on t).told.lst (RS.on t).told.L.cnt (pc (RS.on t).told.lv 32) then
   if (RS.on t).told.size <(zX t).size then some (7,(tCk t).1.next+(RS.on t).told.size) else none
  else some (9,4)
 else some (8,(RS.on t).told.st.next)
theorem zAz {t:ByteArray}(h:(tCk t).1.wrong=false):zt (RS.on t).told:=zIm (zR h)
theorem zLR (t:ByteArray):(tCk t).1.text=t:=((zGA (RS.on t)).trans (zZ _ _)).1
end Go.Proofs.YtlopecgkiikdhaaGreatDoor
