import Derived.Test.YtlopecgkiikdhaaGreatDoorX23
namespace Go.Proofs.YtlopecgkiikdhaaGreatDoor
open Go.RowKit
set_option maxRecDepth 100000
set_option maxHeartbeats 4000000
theorem zMn (W:World)(q A o u:Nat)(D:o<u)(F:u≤A):(Instr.slice 22 (.slice (some ⟨q,0,none⟩) A A) (some (.int .i64 (o:Nat))) (some (.int .i64 (u:Nat))) none).run Tryz.prog W=.ok (.slice (some ⟨q,o,none⟩) (u-o) (A-o)) W:=by
 have j:Tryz.prog.elem 22=9:=by simp[Program.elem,Tryz.underlying22]
 rw[run_slice_lh W 22 _ _ _ (by rw[j];exact Tryz.underlying22) .i64 .i64 _ _ (by omega) (by omega) (by omega),j,zOE]
 cases o with
 |zero=>simp[Result.andThen,sliced,Addr.add]
 |succ m=>simp[Result.andThen,sliced,Addr.add];omega
def zBD (h:Nat→Bool)(o:Nat):Nat→List Nat
 |0=>[]
 |i+1=>if h i=true then zBD h o i else zBD h o i++[o+i]
theorem zBo (h:Nat→Bool)(o:Nat):∀i,(zBD h o i).length≤i
 |0=>Nat.le_refl _
 |i+1=>by
  have:=zBo h o i
  rw[zBD]
  split
  ·omega
  ·rw[List.length_append,List.length_singleton];omega
def mdT (S:Nat→ByteArray)(h:Nat→Bool)(k m c x:Nat):ByteArray:=match zCC S (gt (knL h k (k+m))) (gt (wnL h k (k+m))) k (wnL h k (k+m)).length c x with| .string t=>t|_=>⟨#[]⟩
theorem zDW (z:Nat→Value)(u:Nat→Nat)(j:Nat→Value)(D:∀x,∃t:ByteArray,z x=.string t)(A:∀i,∃t:ByteArray,j i=.string t):∀m x,∃t:ByteArray,zG3 z u j m x=.string t
 |0,x=>D x
 |m+1,x=>by
  show ∃t:ByteArray,zB2 (zG3 z u j m) (u m) (j m) x=.string t
  unfold zB2
  split
  ·exact A m
  ·exact zDW z u j D A m x
theorem zKp (S:Nat→ByteArray)(h:Nat→Bool)(k m c x:Nat):zCC S (gt (knL h k (k+m))) (gt (wnL h k (k+m))) k (wnL h k (k+m)).length c x=.string (mdT S h k m c x):=by
 obtain⟨t,j⟩:=zDW (zG3 (fun _=>.string ⟨#[]⟩) (gt (knL h k (k+m))) (fun i=>.string (S (gt (knL h k (k+m)) i))) k) (gt (wnL h k (k+m))) (tI (vl (gt (knL h k (k+m))) (gt (wnL h k (k+m))) k c fun i=>S (gt (knL h k (k+m)) i))) (zDW _ _ _ (fun x=>⟨_,rfl⟩) (fun i=>⟨_,rfl⟩) k) (fun i=>⟨_,rfl⟩) (wnL h k (k+m)).length x
 unfold mdT
 have e:zCC S (gt (knL h k (k+m))) (gt (wnL h k (k+m))) k (wnL h k (k+m)).length c x=.string t:=j
 rw[e]
def zEl (kt:Nat→Int)(K M C:Nat)(lv:ByteArray)(s len:Nat)(S:Nat→ByteArray)(h:Nat→Bool):Nat:=
 if cnt h (K+M)<K then 1 else if frg kt K M C lv s len S h (mdT S h K M C) then 2 else 0
def fnC (bv:Value)(f:Nat):Array Value:= #[bv,.int .i64 f]
def zLF (q cn:Nat)(bl:Nat→ByteArray)(o n fa:Nat)(bad:List Nat)(A:Nat→ByteArray)(w:World)(e:Ending)(w':World):Prop:=
 ∃z bv,e=.returned (.pointer (some ⟨z,0,none⟩))∧w.heap.size≤z∧w'.heap[z]? =some (.cells (fnC bv fa) 216 (0,0))∧w'.ownsRow w.heap.size 3 1 bv bad.length (unV bad)∧Rw w' q cn 9 (tX (if fa=0 then laid bl o n A else bl))∧Fr (fun j=>j=q) w w'
structure HB (B k g q cn:Nat)(T:TT)(bl:Nat→ByteArray)(w:World):Prop where
 a0:w.cell? ⟨k,0,none⟩=some (.pointer (some ⟨g,0,none⟩))
 a3:w.cell? ⟨k,3,none⟩=some (.slice (some ⟨q,0,none⟩) cn cn)
 hd:Head2 B g T w
 bR:Rw w q cn 9 (tX bl)
theorem HB.below {B k g q j:Nat}{T:TT}{bl:Nat→ByteArray}{w w':World}(h:HB B k g q j T bl w)(hb:Below w.heap.size w w'):HB B k g q j T bl w' where
 a0:=(hb.cell (p:=⟨k,0,none⟩) (block_lt_of_cell h.a0)).trans h.a0
 a3:=(hb.cell (p:=⟨k,3,none⟩) (block_lt_of_cell h.a3)).trans h.a3
 hd:=by
  obtain⟨A,F,num,first,vB,u,D⟩:=h.hd
  exact⟨A,F,num,first,vB,(hb.block g (Array.getElem?_eq_some_iff.1 u).1).trans u,zI D hb⟩
 bR:=(hb.block q (Array.getElem?_eq_some_iff.1 h.bR).1).trans h.bR
structure WI (K M C V p b2 z n:Nat)(h:Nat→Bool)(o:Nat)(wr:World)(i:Nat)(bv:Value):Prop where
 lt1:p<b2
 lt2:b2<z
 gR:Rw wr b2 n 4 (zL i (bI h) (.bool false))
 fR:wr.heap[z]? =some (.cells (fnC bv 0) 216 (0,0))
 pR:wr.heap[p]? =some (.cells #[.int .i64 K,.int .i64 M,.int .i64 C,.int .i64 V] 81 (0,0))
 own:wr.ownsRow p 3 1 bv (zBD h o i).length (unV (zBD h o i))
theorem WI.below {K M C V p u z n:Nat}{h:Nat→Bool}{o:Nat}{wr w':World}{i:Nat}{A:Value}(j:WI K M C V p u z n h o wr i A)(hb:Below wr.heap.size wr w'):WI K M C V p u z n h o w' i A where
 lt1:=j.lt1
 lt2:=j.lt2
 gR:=(hb.block _ (Array.getElem?_eq_some_iff.1 j.gR).1).trans j.gR
 fR:=(hb.block _ (Array.getElem?_eq_some_iff.1 j.fR).1).trans j.fR
 pR:=(hb.block _ (Array.getElem?_eq_some_iff.1 j.pR).1).trans j.pR
 own:=zI j.own hb
structure WJ (K M C V p b2 z n:Nat)(h:Nat→Bool)(o:Nat)(wr:World)(i:Nat)(bv:Value):Prop where
 lt1:p<b2
 lt2:b2<z
 gR:Rw wr b2 n 4 (zL (i+1) (bI h) (.bool false))
 fR:wr.heap[z]? =some (.cells (fnC bv 0) 216 (0,0))
 pR:wr.heap[p]? =some (.cells #[.int .i64 K,.int .i64 M,.int .i64 C,.int .i64 V] 81 (0,0))
 own:wr.ownsRow p 3 1 bv (zBD h o i).length (unV (zBD h o i))
theorem WI.put {K M C V p D z n:Nat}{h:Nat→Bool}{o:Nat}{wr Y:World}{i:Nat}{F:Value}{b:Bool}(u:WI K M C V p D z n h o wr i F)(hb:h i=b)(G:wr.setCell ⟨D,i,none⟩ (.bool b)=Y):WJ K M C V p D z n h o Y i F:=by
 subst G
 have l1:=u.lt1;have N:=u.lt2
 refine⟨l1,N,(u.gR.put i _).to (fun j _=>by rw[←hb,←zN];rfl),?_,?_,zD u.own (fun y J=> ?_)⟩
 ·rw[zC _ _ _ _ _ (by omega)];exact u.fR
 ·rw[zC _ _ _ _ _ (by omega)];exact u.pR
 ·obtain⟨cur,A⟩:=zB u.own y J
  exact zC _ _ _ _ _ (zE A u.gR (by decide))
theorem WJ.good {K M C V p u z n:Nat}{h:Nat→Bool}{o:Nat}{wr:World}{i:Nat}{A:Value}(j:WJ K M C V p u z n h o wr i A)(hb:h i=true):WI K M C V p u z n h o wr (i+1) A:=
 ⟨j.lt1,j.lt2,j.gR,j.fR,j.pR,by rw[zBD,if_pos hb];exact j.own⟩
theorem WJ.old {K M C V p N z n:Nat}{h:Nat→Bool}{o:Nat}{wr J:World}{i:Nat}{F:Value}{ob:Obj}(R:WJ K M C V p N z n h o wr i F)(Q:(wr.alloc ob).grownBy J F.ownBlock)(j:Nat)(G:Array Value)(t:TypeId)(A:wr.heap[j]? =some (.cells G t (0,0)))(U:t≠3):J.heap[j]? =some (.cells G t (0,0)):=by
 have D:=(Array.getElem?_eq_some_iff.1 A).1
 rw[Q.block j (by simp;omega) (fun e=>by
  obtain⟨cur,u⟩:=zB R.own j e.symm
  exact zE A u U rfl),heap_alloc_old _ _ D]
 exact A
theorem WJ.kept2 {K M C V p D z n:Nat}{h:Nat→Bool}{o:Nat}{wr A:World}{i:Nat}{j:Value}{ob:Obj}(u:WJ K M C V p D z n h o wr i j)(F:(wr.alloc ob).grownBy A j.ownBlock):A.heap[z]? =some (.cells (fnC j 0) 216 (0,0)):=u.old F _ _ _ u.fR (by decide)
theorem WJ.cell {K M C V p j z n:Nat}{h:Nat→Bool}{o:Nat}{wr:World}{i:Nat}{u:Value}{b:Bool}(A:WJ K M C V p j z n h o wr i u)(hi:i<n)(hb:h i=b):wr.cell? ⟨j,i,none⟩=some (.bool b):=by
 rw[A.gR.cell i hi]
 simp[zL,bI,hb]
theorem WJ.bad {K M C V p G z n:Nat}{h:Nat→Bool}{o:Nat}{wr F:World}{i L:Nat}{N D:Value}{ob:Obj}(j:WJ K M C V p G z n h o wr i N)(A:(wr.alloc ob).grownBy F N.ownBlock)(hb:h i=false)(U:(zBD h o i).length=L)(J:F.ownsRow p 3 1 D (L+1) (unV (zBD h o i)++[.int .i64 ((o+i:Nat):Int)])):WI K M C V p G z n h o (F.setCell ⟨z,0,none⟩ D) (i+1) D:=by
 have hf:zBD h o (i+1)=zBD h o i++[o+i]:=by rw[zBD,if_neg (by rw[hb];simp)]
 have l1:=j.lt1;have X:=j.lt2
 have Q:unV (zBD h o i)++[.int .i64 ((o+i:Nat):Int)]=unV (zBD h o (i+1)):=by rw[hf];simp[unV]
 have R:L+1=(zBD h o (i+1)).length:=by rw[hf,←U];simp
 rw[Q,R]at J
 refine⟨l1,X,?_,?_,?_,zD J (fun y W=> ?_)⟩
 ·show (F.setCell ⟨z,0,none⟩ D).heap[G]? =_
  rw[zC _ _ _ _ _ (by omega)];exact j.old A _ _ _ j.gR (by decide)
 ·rw[zH _ _ _ _ _ _ _ (j.kept2 A)];rfl
 ·rw[zC _ _ _ _ _ (by omega)];exact j.old A _ _ _ j.pR (by decide)
 ·obtain⟨cur,u⟩:=zB J y W
  exact zC _ _ _ _ _ (zE u (j.kept2 A) (by decide))
theorem WI.done {K M C V p N z n:Nat}{h:Nat→Bool}{o q G f:Nat}{w D:World}{F:Value}{bl A:Nat→ByteArray}(j:WI K M C V p N z n h o D n F)(hb:Below w.heap.size w D)(hp:w.heap.size=p)(J:Rw D q G 9 (tX bl))(hf:f≠0):zLF q G bl o n f (zBD h o n) A w (.returned (.pointer (some ⟨z,0,none⟩))) (D.setCell ⟨z,1,none⟩ (.int .i64 f)):=by
 have l1:=j.lt1;have R:=j.lt2
 refine⟨z,F,rfl,by omega,?_,?_,?_,Fr.below (hb.setCell (by show w.heap.size≤z;omega) _)⟩
 ·rw[zH _ _ _ _ _ _ _ j.fR];rfl
 ·rw[hp]
  refine zD j.own (fun y Q=> ?_)
  obtain⟨cur,u⟩:=zB j.own y Q
  exact zC _ _ _ _ _ (zE u j.fR (by decide))
 ·rw[if_neg hf]
  show (D.setCell ⟨z,1,none⟩ (.int .i64 f)).heap[q]? =_
  rw[zC _ _ _ _ _ (zE J j.fR (by decide))]
  exact J
theorem WI.made {K M C V p R z n:Nat}{h:Nat→Bool}{o q N:Nat}{w F G:World}{J:Value}{bl A:Nat→ByteArray}(u:WI K M C V p R z n h o F n J)(hb:Below w.heap.size w F)(hp:w.heap.size=p)(W:q<p)(D:Fr (fun j=>j=q) F G)(U:Rw G q N 9 (tX (laid bl o n A))):zLF q N bl o n 0 (zBD h o n) A w (.returned (.pointer (some ⟨z,0,none⟩))) G:=by
 have l1:=u.lt1;have X:=u.lt2
 refine⟨z,J,rfl,by omega,?_,?_,?_,(Fr.below hb).trans' D⟩
 ·rw[D.old z (Array.getElem?_eq_some_iff.1 u.fR).1 (by show ¬z=q;omega)];exact u.fR
 ·rw[hp]
  exact zD u.own (fun y Q=>D.old y (zG u.own y Q) (by have:=zK u.own y Q;show ¬y=q;omega))
 ·rw[if_pos rfl];exact U
theorem WI.cl {K M C V p u z n:Nat}{h:Nat→Bool}{o:Nat}{A:World}{D:Value}(F:WI K M C V p u z n h o A n D):Cl A u n (bI h):=(F.gR.to (fun j G=>by simp[zL,G])).cl
set_option maxHeartbeats 8000000 in
theorem zFI (kt:Nat→Int)(B k g q F s n o:Nat)(T:TT)(bl S:Nat→ByteArray)(hd:Nat→Bool)(w:World)(h:HB B k g q F T bl w)(hT:zt T)(cC:T.L.es.length≤16∧zM T.L.es≤4096)(hG:Gd kt w)(bY:T.L.cnt=F)(hs:s<T.L.ns)(N:T.L.K+T.L.M=n)(ho:s*n=o)
 (bT:∀i,i<n→bl (o+i)=S i) (aM:∀i,i<n→zAG kt T.L.C T.lv (o+i) (S i)=hd i):
 Calls Tryz.prog 158 #[.pointer (some ⟨k,0,none⟩),.int .i64 s] w fun e w'=>zLF q F bl o n (zEl kt T.L.K T.L.M T.L.C T.lv s (zM T.L.es) S hd) (zBD hd o n) (mdT S hd T.L.K T.L.M T.L.C) w e w':=by
 have HH:Hid _:=h
 obtain⟨aE,kE,num,first,vB,hg,d4⟩:=h.hd
 have a0:=h.a0
 have a3:=h.a3
 have cZ:=hT.k1;have cB:=hT.km;have bX:=hT.c1;have a9:=hT.c64;have bZ:=hT.cnt;have aO:=hT.lv
 obtain⟨K,aI⟩:∃x,T.L.K=x:=⟨_,rfl⟩
 obtain⟨M,b0⟩:∃x,T.L.M=x:=⟨_,rfl⟩
 obtain⟨C,a6⟩:∃x,T.L.C=x:=⟨_,rfl⟩
 obtain⟨V,cT⟩:∃x,T.L.V=x:=⟨_,rfl⟩
 obtain⟨len,aA⟩:∃x,zM T.L.es=x:=⟨_,rfl⟩
 have d0:T.L.ns*n=F:=by rw[←bY,←N];rfl
 have cD:o+n≤F:=by rw[←d0,←ho,←Nat.succ_mul];exact Nat.mul_le_mul_right n hs
 have d7:s*(K*C)<len:=by
  have h1:s+1≤nst (K*C) len:=by rw[←aI,←a6,←aA];exact hs
  unfold nst at h1
  have h2:=(Nat.le_div_iff_mul_le (Nat.mul_pos (by omega:0<K) (by omega:0<C))).1 h1
  rw[Nat.succ_mul]at h2
  have:0<K*C:=Nat.mul_pos (by omega) (by omega)
  omega
 rw[aI,b0,a6,cT]at hg
 rw[a6,aA,aI,b0]
 rw[a6]at aM
 rw[aI]at cZ cB N
 rw[b0]at cB N
 rw[a6]at bX a9
 rw[bY]at bZ aO
 obtain⟨lv,aS⟩:∃x,T.lv=x:=⟨_,rfl⟩
 rw[aS]at hg aO aM
 rw[aS]
 have bO:Hid _:=bT
 have bH:Hid _:=aM
 clear bT aM
 have c2:w.cell? ⟨g,2,none⟩=some (.int .i64 K):=cell_of_row _ _ _ _ 157 _ hg
 have c3:w.cell? ⟨g,3,none⟩=some (.int .i64 M):=cell_of_row _ _ _ _ 157 _ hg
 have c4:w.cell? ⟨g,4,none⟩=some (.int .i64 C):=cell_of_row _ _ _ _ 157 _ hg
 have c5:w.cell? ⟨g,5,none⟩=some (.int .i64 V):=cell_of_row _ _ _ _ 157 _ hg
 have f0:(s:Int)*(n:Int)=(o:Int):=by rw[←ho];simp
 obtain⟨u,hu⟩:∃u,o+n=u:=⟨_,rfl⟩
 have f1:(o:Int)+(K:Int)+(M:Int)=(u:Int):=by omega
 have dY:(K:Int)+(M:Int)=(n:Int):=by omega
 have d6:=fun W=>zMn W q F o u (by omega) (by omega)
 have d9:u-o=n:=by omega
 rw[d9]at d6
 have b6:k<w.heap.size:=block_lt_of_cell a0
 have cA:g<w.heap.size:=(Array.getElem?_eq_some_iff.1 hg).1
 have d5:q<w.heap.size:=(Array.getElem?_eq_some_iff.1 h.bR).1
 have b7:s≤10000:=by have:s*1≤s*n:=Nat.mul_le_mul_left s (by omega);omega
 have cK:Hid (∀(X:World) (i:Nat),Below w.heap.size w X→i<n→Calls Tryz.prog 172 #[.pointer (some ⟨k,0,none⟩),.int .i64 ((o+i:Nat):Int),.string (S i)] X fun e w'=>e=.returned (.bool (hd i))∧Below X.heap.size X w'):=fun X i hX hi=>by
  have e1:=(hX.block g cA).trans hg
  rw[←bH.out i hi]
  exact zCs kt k g (o+i) C lv (S i) X ((hX.cell (p:=⟨k,0,none⟩) b6).trans a0) (cell_of_row _ _ _ _ 157 _ e1) (cell_of_row _ _ _ _ 157 _ e1) (hG.below hX) (by rw[aO];exact Nat.mul_le_mul_right 32 (by omega)) (by omega) a9
 obtain⟨p,hp⟩:∃p,w.heap.size=p:=⟨_,rfl⟩
 have m4:=run_make_row' (P:=Tryz.prog) 111 4 (.bool false) 1 Tryz.underlying111 zLx rfl .i64 .i64 n (by omega) (by omega)
 obtain⟨W,hW⟩:∃W,w.alloc (.cells #[.int .i64 K,.int .i64 M,.int .i64 C,.int .i64 V] 81)=W:=⟨_,rfl⟩
 have b3:Below w.heap.size w W:=by rw[←hW];exact (Below.refl _ _).alloc (Nat.le_refl _) _
 have aP:W.heap[p]? =some (.cells #[.int .i64 K,.int .i64 M,.int .i64 C,.int .i64 V] 81 (0,0)):=by rw[←hW,←hp];exact heap_alloc_new _ _
 have x3:=(b3.cell (p:=⟨k,3,none⟩) b6).trans a3
 have x0:W.cell? ⟨p,0,none⟩=some (.int .i64 K):=cell_of_row _ _ _ _ 81 _ aP
 have x1:W.cell? ⟨p,1,none⟩=some (.int .i64 M):=cell_of_row _ _ _ _ 81 _ aP
 have aT:Hid _:=b3
 have cM:Hid _:=aP
 have HP:Hid (w.heap.size=p):=hp
 have aG:Hid (W.heap.size=p+1):=by show W.heap.size=p+1;rw[←hW,←hp];simp
 clear b3 aP
 go_enter Tryz.func158,Tryz.ntmps158
 go_wp2_with fail
 try rw[hW]
 clear hW hp c2 c3 c4 c5
 go_quiet (fail)
 go_wp2_with fail
 obtain⟨X0,a1⟩:∃X,((W.drewN nq).alloc (.cells (madeCells #[.bool false] n) 4)).alloc (.cells #[.slice none 0 0,.int .i64 0] 216)=X:=⟨_,rfl⟩
 obtain⟨Q,J⟩:∃x,p+1=x:=⟨_,rfl⟩
 obtain⟨z,hz⟩:∃x,Q+1=x:=⟨_,rfl⟩
 rw[a1,aG.out,J,hz]
 have bV:Below w.heap.size w X0:=by rw[←a1];exact ((below_drewN aT.out nq).alloc (by show w.heap.size≤W.heap.size;exact aT.out.size) _).alloc (by simp;have:=aT.out.size;omega) _
 have r0:WI K M C V p Q z n hd o X0 0 (.slice none 0 0):=by
  have cU:Below W.heap.size W X0:=by rw[←a1];exact ((below_drewN (Below.refl _ _) nq).alloc (Nat.le_refl _) _).alloc (by simp) _
  refine⟨by omega,by omega,?_,?_,?_,⟨rfl,.inl ⟨rfl,rfl⟩⟩⟩
  ·have:=(Rw.made (W.drewN nq) n 4 (.bool false)).alloc (.cells #[.slice none 0 0,.int .i64 0] 216)
   rw[a1,show (W.drewN nq).heap.size=Q from aG.out.trans J]at this
   exact this.to (fun j _=>(zo _ _ j).symm)
  ·have:=heap_alloc_new ((W.drewN nq).alloc (.cells (madeCells #[.bool false] n) 4)) (.cells #[.slice none 0 0,.int .i64 0] 216)
   rw[a1,show ((W.drewN nq).alloc (.cells (madeCells #[.bool false] n) 4)).heap.size=z by simp[aG.out];omega]at this
   exact this
  ·exact (cU.block p (by rw[aG.out];omega)).trans cM.out
 have cH:Hid _:=bV
 have cP:Hid _:=r0
 have dK:p<Q:=by omega
 have f4:Q<z:=by omega
 clear bV r0 a1 J hz
 obtain⟨i0,cV,z0,z1,z2⟩:=info_parts zBW
 go_loopw [48] (fun iv wr=>∃(i:Nat) (bv:Value),i≤n∧iv=.int .i64 i∧Below w.heap.size w wr∧WI K M C V p Q z n hd o wr i bv) (fun iv _=>n-(intOf iv).toNat)
 case atStart=>exact⟨0,_,by omega,rfl,cH.out,cP.out⟩
 case round=>
  obtain⟨i,bv,hi,rfl,hB,hI⟩:=hrel
  have HB:Hid _:=hB
  have HI:Hid _:=hI
  by_cases aN:i<n
  ·have c1:wr.cell? ⟨q,o+i,none⟩=some (.string (S i)):=by rw[←bO.out i aN];exact ((HH.out.below hB).bR.cell (o+i) (by omega))
   have dX:(i:Int)<(n:Int):=by omega
   have bG:Hid _:=cK.out wr i hB aN
   obtain⟨x,hx⟩:∃x,o+i=x:=⟨_,rfl⟩
   rw[hx]at bG
   have dZ:(o:Int)+(i:Int)=(x:Int):=by omega
   have HX:Hid _:=hx
   clear hB hI hx
   go_wp2_with fail
   refine Calls.mono bG.out ?_
   rintro e w1 ⟨rfl,D⟩
   have G:Hid _:=HI.out.below D
   have Z:Hid (Below w.heap.size w w1):=HB.out.trans (D.mono HB.out.size)
   have d1:=G.out.gR.cell i aN
   have d2:=G.out.gR.free i
   clear D c1
   obtain⟨gi,b4⟩:∃b,hd i=b:=⟨_,rfl⟩
   have aD:Hid _:=b4
   rw[b4]
   obtain⟨Y,hY⟩:∃Y,w1.setCell ⟨Q,i,none⟩ (.bool gi)=Y:=⟨_,rfl⟩
   have HY:Hid _:=WI.put G.out aD.out hY
   have aU:Hid (Below w.heap.size w Y):=by show Below w.heap.size w Y;rw[←hY];exact Z.out.setCell (by rw[HP.out];show p≤Q;omega) _
   have y1:=HY.out.cell aN aD.out
   clear b4
   cases gi with
   |true=>
    go_wp2_with fail
    go_roundw
    case rel=>exact⟨i+1,bv,by omega,by go_num,aU.out,HY.out.good aD.out⟩
    case measure=>simp[intOf];omega
   |false=>
    obtain⟨au,cu,bW⟩:=zA HY.out.own
    obtain⟨L,hL⟩:∃L,(zBD hd o i).length=L:=⟨_,rfl⟩
    have dU:L≤n:=by have:=zBo hd o i;omega
    have HL:Hid _:=hL
    rw[hL]at bW
    subst bW
    have HU:Hid (Y.ownsRow p 3 1 (.slice au L cu) L (unV (zBD hd o i))):=by have:=HY.out.own;rw[hL]at this;exact this
    have m0:Y.cell? ⟨z,0,none⟩=some (.slice au L cu):=cell_of_row _ _ _ _ 216 _ HY.out.fR
    have f2:p≤Y.heap.size:=by rw[←HP.out];exact aU.out.size
    have HM:Hid (∀U:World,(Y.alloc (.cells #[.int .i64 x] 3)).grownBy U (Value.slice au L cu).ownBlock→U.heap[z]? =some (.cells (fnC (.slice au L cu) 0) 216 (0,0))):=fun U hG=>HY.out.kept2 hG
    clear hL
    go_wp2_with (at_builtin;refine wpList_append_own _ rfl (.tmp 71) (.tmp 75) 23 rfl p 3 i0 (.int .i64 0) 1 8 Tryz.underlying23 cV z0 z1 z2 rfl (by decide) (.slice au L cu) L (unV (zBD hd o i)) (by simp[Act.eval]) (HU.out.alloc _) ⟨Y.heap.size,0,none⟩ 1 1 [.int .i64 x] (by simp[Act.eval]) rfl (cell_one_new _ _ _) (by intro u hu;simp at hu;subst hu;rfl) (by unfold maxLen;omega) (by omega) (by simp;omega) ?_;intro v2 U hO2 hG2 _;obtain⟨a2,k2,hv2⟩:=zA hO2;subst hv2;have b5:=HM.out U hG2;have m1:U.cell? ⟨z,0,none⟩=some (.slice au L cu):=(cell_of_row _ _ _ _ 216 _ b5);have m2:=frozen_of_row U z 0 _ 216 b5;have cL:Hid _:=hO2;have bF:Hid _:=hG2;clear hO2 hG2 b5)
    refine⟨⟨i+1,_,by omega,by go_num,?_,HY.out.bad bF.out aD.out HL.out (by rw[HX.out];exact cL.out)⟩,by simp[intOf];omega⟩
    exact Fr.toBelow ((((Fr.below aU.out).alloc (.cells #[.int .i64 x] 3)).grown bF.out (fun y hy=>.inr (by rw[HP.out];exact zK HU.out y hy))).set (g:=z) (.inr (by rw[HP.out];omega)) _ _)
  ·have ei:i=n:=by omega
   subst ei
   have x0:wr.cell? ⟨p,0,none⟩=some (.int .i64 K):=cell_of_row _ _ _ _ 81 _ hI.pR
   have x1:wr.cell? ⟨p,1,none⟩=some (.int .i64 M):=cell_of_row _ _ _ _ 81 _ hI.pR
   have a8:Rw wr q F 9 (tX bl):=(HH.out.below hB).bR
   have a7:ClO wr q o i (tI S):=fun j hj=>by
    have:=a8.cell (o+j) (by omega)
    rw[this]
    show some (Value.string (bl (o+j)))=some (.string (S j))
    rw[bO.out j hj]
   have aJ:∀j,j<i→hd j=true→(S j).size=C:=fun j cY hj=>zAK ((bH.out j cY).trans hj)
   have R:Q<wr.heap.size:=(Array.getElem?_eq_some_iff.1 hI.gR).1
   have a4:q<wr.heap.size:=(Array.getElem?_eq_some_iff.1 a8).1
   have bD:Hid (Rw wr q F 9 (tX bl)):=a8
   by_cases c8:cnt hd i<K
   ·have HF:Hid (zEl kt K M C lv s len S hd=1):=by show zEl kt K M C lv s len S hd=1;unfold zEl;rw[N,if_pos c8]
    have aX:=zE7 S hd K M C q o (F-o) Q i wr (by omega) (by omega) (by rw[N];exact aJ) (by rw[N,zCJ];omega) R (by rw[N];exact a7) (by rw[N];exact hI.cl)
    rw[N]at aX
    have bK:Hid _:=aX
    clear aX hB hI a8 a7 aJ
    go_wp2_with fail
    refine Calls.mono bK.out ?_
    rintro e w1 ⟨zz,rfl,D⟩
    have G:Hid _:=HI.out.below D
    have Z:Hid (Below w.heap.size w w1):=HB.out.trans (D.mono HB.out.size)
    have aW:Hid (Rw w1 q F 9 (tX bl)):=(D.block q a4).trans bD.out
    have d1:w1.cell? ⟨z,1,none⟩=some (.int .i64 0):=cell_of_row _ _ _ _ 216 _ G.out.fR
    have d2:=frozen_of_row w1 z 1 _ 216 G.out.fR
    clear D x0 x1
    go_wp2_with fail
    go_ret
    exact (show zLF q F bl o i (zEl kt K M C lv s len S hd) (zBD hd o i) (mdT S hd K M C) w _ _ by rw[HF.out];exact G.out.done Z.out HP.out aW.out (by decide))
   ·obtain⟨i1,cW,h1,h2⟩:=zB7 hd i (by omega)
    have aY:Calls Tryz.prog 173 #[.int .i64 K,.int .i64 M,.slice (some ⟨q,o,none⟩) (K+M) (F-o),.slice (some ⟨Q,0,none⟩) (K+M) i] wr fun e w'=>∃g,e=.returned (.tuple #[.slice (some ⟨g,0,none⟩) (K+M) (K+M),.nilIface])∧Rw w' g (K+M) 9 (tX (mdT S hd K M C))∧Below wr.heap.size wr w':=
     (zIQ S hd K M C q o (F-o) Q i i1 wr (by omega) (by omega) (by omega) (by rw[N];exact cW) h1 h2 (by rw[N];exact aJ) (by rw[N,zCJ];omega) a4 R (by rw[N];exact a7) (by rw[N];exact hI.cl)).mono (by rintro e w' ⟨g,a,b,c,d⟩;exact⟨g,a,c.to (fun j _=>zKp S hd K M C j),d⟩)
    rw[N]at aY
    have aR:Hid _:=aY
    obtain⟨A,hA⟩:∃A,mdT S hd K M C=A:=⟨_,rfl⟩
    have aV:Hid (zEl kt K M C lv s len S hd=if frg kt K M C lv s len S hd A then 2 else 0):=by show zEl kt K M C lv s len S hd=_;unfold zEl;rw[N,if_neg c8,hA]
    have cJ:Hid (∀(X:World) (md:Nat),Below wr.heap.size wr X→Rw X md i 9 (tX A)→Calls Tryz.prog 174 #[.pointer (some ⟨k,0,none⟩),.int .i64 s,.slice (some ⟨q,o,none⟩) i (F-o),.slice (some ⟨Q,0,none⟩) i i,.slice (some ⟨md,0,none⟩) i i] X fun e w'=>e=.returned (.bool (frg kt K M C lv s len S hd A))∧Below X.heap.size X w'):=fun X md hX hR=>by
     have aK:Below w.heap.size w X:=hB.trans (hX.mono hB.size)
     exact zGQ kt k g B K M C V num first s q Q md i o len (F-o) i aE kE T.L.es T.root T.lst lv vB S A hd X ((aK.cell (p:=⟨k,0,none⟩) b6).trans a0) ((aK.block g cA).trans hg) (zI d4 aK) cC.1 cC.2 aA (hG.below aK) (by omega) (by omega) N.symm bX a9 (by rw[aO];exact Nat.mul_le_mul_right 32 cD) (by omega) (by rw[N];exact ho) b7 d7 (Nat.lt_of_lt_of_le a4 hX.size) (ClO.below a7 hX a4) (Nat.lt_of_lt_of_le R hX.size) (Cl.below hI.cl hX R) hR
    rw[hA]at aR
    have HA:Hid _:=hA
    clear aY hB hI a8 a7 aJ h1 h2
    go_wp2_with fail
    refine Calls.mono aR.out ?_
    rintro e w1 ⟨md,rfl,b1,D⟩
    have bE:Hid _:=cJ.out w1 md D b1
    have G:Hid _:=HI.out.below D
    have Z:Hid (Below w.heap.size w w1):=HB.out.trans (D.mono HB.out.size)
    have aW:Hid (Rw w1 q F 9 (tX bl)):=(D.block q a4).trans bD.out
    have bL:Hid (Rw w1 md i 9 (tX A)):=b1
    have cN:Hid (q<w1.heap.size):=Nat.lt_of_lt_of_le a4 D.size
    clear D b1 x0 x1
    obtain⟨fb,c9⟩:∃b,frg kt K M C lv s len S hd A=b:=⟨_,rfl⟩
    rw[c9]at aV bE
    clear c9
    go_wp2_with fail
    refine Calls.mono bE.out ?_
    rintro e U ⟨rfl,J⟩
    have aF:Hid _:=G.out.below J
    have bC:Hid (Below w.heap.size w U):=Z.out.trans (J.mono Z.out.size)
    have bJ:Hid (Rw U q F 9 (tX bl)):=(J.block q cN.out).trans aW.out
    have bM:Hid (Rw U md i 9 (tX A)):=(J.block md (Array.getElem?_eq_some_iff.1 bL.out).1).trans bL.out
    clear J
    cases fb with
    |true=>
     have d1:U.cell? ⟨z,1,none⟩=some (.int .i64 0):=cell_of_row _ _ _ _ 216 _ aF.out.fR
     have d2:=frozen_of_row U z 1 _ 216 aF.out.fR
     go_wp2_with fail
     go_ret
     exact (show zLF q F bl o i (zEl kt K M C lv s len S hd) (zBD hd o i) (mdT S hd K M C) w _ _ by rw[aV.out];exact aF.out.done bC.out HP.out bJ.out (by decide))
    |false=>
     obtain⟨X',dW,bS,bQ⟩:=zB8 U q F o i (F-o) md i i bl A 3 bJ.out bM.out cD (Nat.le_refl _)
     have cO:Hid _:=bS
     have cI:Hid _:=bQ
     clear bS bQ
     go_wp2_with fail
     go_ret
     exact (show zLF q F bl o i (zEl kt K M C lv s len S hd) (zBD hd o i) (mdT S hd K M C) w _ _ by rw[aV.out,HA.out];exact aF.out.made bC.out HP.out (by rw[←HP.out];exact d5) cI.out cO.out)
end Go.Proofs.YtlopecgkiikdhaaGreatDoor
