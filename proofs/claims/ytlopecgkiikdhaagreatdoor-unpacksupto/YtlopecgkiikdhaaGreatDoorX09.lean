import Derived.Test.YtlopecgkiikdhaaGreatDoorX08
namespace Go.Proofs.YtlopecgkiikdhaaGreatDoor
open Go.RowKit
theorem zNY:(Tryz.prog.info? 64).map (·.size)=some 1:=by kernel_rfl
theorem zD0 (n t:Nat)(f:Nat→Int)(i:Nat)(h:i<n)(W:World)(u:Tryz.prog.underlying t=some (.array n 64)):(Instr.index t (.agg (row n f)) (.int .i64 i)).run Tryz.prog W=.ok (.int .u32 (f i)) W:=by
 have hi:=zNY
 have j:=zDY n f i h
 cases hq:Tryz.prog.info? 64 with
 |none=>simp[hq]at hi
 |some d=>
  have hs:d.size=1:=by simpa[hq] using hi
  simp[Instr.index,asIntOf,run_underlying u,sizeOf,typeInfo,hq,hs,part,j]
  intro;omega
structure Mem (w:World)(g:Nat)(st x W:Nat→Int)(w2:World):Prop where
 own:Words w2 w.heap.size 8 190 st
 res:Words w2 (w.heap.size+1) 8 190 x
 wrd:Words w2 g 64 232 W
 below:Below w.heap.size w w2
 lo:w.heap.size+2≤g
 size:w2.heap.size=g+1
theorem Mem.drewN {w:World}{g:Nat}{st x W:Nat→Int}{j:World}(h:Mem w g st x W j)(n:Nat):Mem w g st x W (j.drewN n):=⟨h.own,h.res,h.wrd,below_drewN h.below n,h.lo,h.size⟩
def bs1 (x:Int):Int:=bits .xor .u32 (bits .xor .u32 (zAi x 6) (zAi x 11)) (zAi x 25)
def bs0 (x:Int):Int:=bits .xor .u32 (bits .xor .u32 (zAi x 2) (zAi x 13)) (zAi x 22)
def cho (e f g:Int):Int:=bits .xor .u32 (bits .and .u32 e f) (bits .and .u32 (bits .xor .u32 e 4294967295) g)
def maj (a b c:Int):Int:=bits .xor .u32 (bits .xor .u32 (bits .and .u32 a b) (bits .and .u32 a c)) (bits .and .u32 b c)
def rnd (x:Nat→Int)(k w:Int):Nat→Int
 |0=>(x 7+bs1 (x 4)+cho (x 4) (x 5) (x 6)+k+w+bs0 (x 0)+maj (x 0) (x 1) (x 2))%4294967296
 |1=>x 0
 |2=>x 1
 |3=>x 2
 |4=>(x 3+x 7+bs1 (x 4)+cho (x 4) (x 5) (x 6)+k+w)%4294967296
 |5=>x 4
 |6=>x 5
 |_=>x 6
def zx (kt W st:Nat→Int):Nat→Nat→Int
 |0=>st
 |k+1=>rnd (zx kt W st k) (kt k) (W k)
def zBQ (kt W st:Nat→Int)(j:Nat):Int:=(zx kt W st 64 j+st j)%4294967296
theorem zG1 (a b:Int):bits .xor .u32 a b=bits .xor .u32 b a:=by
 unfold bits
 simp only[BitVec.xor_comm]
theorem zFn (e:Int):bits .xor .u32 (if IntKind.u32.signed=true then-1 else IntKind.u32.max) e=bits .xor .u32 e 4294967295:=by
 rw[zG1];rfl
theorem zPG (x:Nat→Int)(k w:Int):((x 7+bits BinOp.xor IntKind.u32 (bits BinOp.xor IntKind.u32 (zAi (x 4) 6) (zAi (x 4) 11)) (zAi (x 4) 25)+
 bits BinOp.xor IntKind.u32 (bits BinOp.and IntKind.u32 (x 4) (x 5)) (bits BinOp.and IntKind.u32 (bits BinOp.xor IntKind.u32 (if IntKind.u32.signed=true then-1 else IntKind.u32.max) (x 4)) (x 6))+k+w+
 bits BinOp.xor IntKind.u32 (bits BinOp.xor IntKind.u32 (zAi (x 0) 2) (zAi (x 0) 13)) (zAi (x 0) 22))%4294967296+
 bits BinOp.xor IntKind.u32 (bits BinOp.xor IntKind.u32 (bits BinOp.and IntKind.u32 (x 0) (x 1)) (bits BinOp.and IntKind.u32 (x 0) (x 2))) (bits BinOp.and IntKind.u32 (x 1) (x 2)))%4294967296=rnd x k w 0:=by
 rw[zFn]
 show ((x 7+bs1 (x 4)+cho (x 4) (x 5) (x 6)+k+w+bs0 (x 0))%4294967296+maj (x 0) (x 1) (x 2))%4294967296=(x 7+bs1 (x 4)+cho (x 4) (x 5) (x 6)+k+w+bs0 (x 0)+maj (x 0) (x 1) (x 2))%4294967296
 omega
theorem zPH (x:Nat→Int)(k w:Int):(x 3+(x 7+bits BinOp.xor IntKind.u32 (bits BinOp.xor IntKind.u32 (zAi (x 4) 6) (zAi (x 4) 11)) (zAi (x 4) 25)+
 bits BinOp.xor IntKind.u32 (bits BinOp.and IntKind.u32 (x 4) (x 5)) (bits BinOp.and IntKind.u32 (bits BinOp.xor IntKind.u32 (if IntKind.u32.signed=true then-1 else IntKind.u32.max) (x 4)) (x 6))+k+w)%4294967296)%4294967296=rnd x k w 4:=by
 rw[zFn]
 show (x 3+(x 7+bs1 (x 4)+cho (x 4) (x 5) (x 6)+k+w)%4294967296)%4294967296=(x 3+x 7+bs1 (x 4)+cho (x 4) (x 5) (x 6)+k+w)%4294967296
 omega
structure SumMem (w:World)(g:Nat)(st x:Nat→Int)(k:Nat)(wr:World):Prop where
 below:Below w.heap.size w wr
 own:Words wr w.heap.size 8 190 st
 res:Words wr (w.heap.size+1) 8 190 (fun _=>0)
 sum:∃f,Words wr g 8 190 f∧(∀j,j<k→f j=(x j+st j)%4294967296)∧∀j,k≤j→f j=x j
theorem SumMem.drew {w:World}{g:Nat}{st x:Nat→Int}{k:Nat}{wr:World}(h:SumMem w g st x k wr):SumMem w g st x k wr.drew:=⟨h.below.drew,h.own,h.res,h.sum⟩
theorem SumMem.step {w:World}{g:Nat}{st x:Nat→Int}{k:Nat}{wr:World}(h:SumMem w g st x k wr)(F:w.heap.size+2≤g):SumMem w g st x (k+1) (wr.setCell ⟨g,k,none⟩ (.int .u32 ((x k+st k)%4294967296))):=by
 obtain⟨f,hf,u,A⟩:=h.sum
 refine⟨h.below.setCell (by simp;omega) _,h.own.other _ _ (by simp;omega),h.res.other _ _ (by simp;omega),upd f k ((x k+st k)%4294967296),hf.put k _,fun j D=> ?_,fun j D=> ?_⟩
 ·unfold upd
  by_cases e:j=k
  ·rw[if_pos e,e]
  ·rw[if_neg e];exact u j (by omega)
 ·unfold upd
  rw[if_neg (by omega)];exact A j (by omega)
structure PMem (w:World)(g gx:Nat)(st x W:Nat→Int)(wr:World):Prop where
 own:Words wr w.heap.size 8 190 st
 res:Words wr (w.heap.size+1) 8 190 (fun _=>0)
 wrd:Words wr g 64 232 W
 cur:Words wr gx 8 190 x
 below:Below w.heap.size w wr
theorem PMem.drewN {w:World}{g j:Nat}{st x W:Nat→Int}{wr:World}(h:PMem w g j st x W wr)(n:Nat):PMem w g j st x W (wr.drewN n):=⟨h.own,h.res,h.wrd,h.cur,below_drewN h.below n⟩
theorem PMem.setRow {w:World}{g j:Nat}{st x W:Nat→Int}{wr:World}(h:PMem w g j st x W wr)(A:w.heap.size+2≤g)(u:g<j)(y:Nat→Int):PMem w g j st y W (wr.setRow j (row 8 y)):=
 ⟨h.own.setRow_other _ _ (by omega),h.res.setRow_other _ _ (by omega),h.wrd.setRow_other _ _ (by omega),zAS y h.cur,zT h.below _ (by omega) _⟩
theorem zPz (f:Nat→Int): #[Value.int .u32 (f 0),.int .u32 (f 1),.int .u32 (f 2),.int .u32 (f 3),.int .u32 (f 4),.int .u32 (f 5),.int .u32 (f 6),.int .u32 (f 7)]=row 8 f:=rfl
theorem zO8 (a b c d e f g h:Int): #[Value.int .u32 a,.int .u32 b,.int .u32 c,.int .u32 d,.int .u32 e,.int .u32 f,.int .u32 g,.int .u32 h].all (·.oneCell')=true:=by simp[Value.oneCell']
theorem zP4 (x:Nat→Int)(k w:Int): #[Value.int .u32 ((x 7+bits BinOp.xor IntKind.u32 (bits BinOp.xor IntKind.u32 (zAi (x 4) 6) (zAi (x 4) 11)) (zAi (x 4) 25)+
 bits BinOp.xor IntKind.u32 (bits BinOp.and IntKind.u32 (x 4) (x 5)) (bits BinOp.and IntKind.u32 (bits BinOp.xor IntKind.u32 (x 4) 4294967295) (x 6))+k+w+
 (bits BinOp.xor IntKind.u32 (bits BinOp.xor IntKind.u32 (zAi (x 0) 2) (zAi (x 0) 13)) (zAi (x 0) 22)+
 bits BinOp.xor IntKind.u32 (bits BinOp.xor IntKind.u32 (bits BinOp.and IntKind.u32 (x 0) (x 1)) (bits BinOp.and IntKind.u32 (x 0) (x 2))) (bits BinOp.and IntKind.u32 (x 1) (x 2))))%4294967296),
 Value.int .u32 (x 0),Value.int .u32 (x 1),Value.int .u32 (x 2),
 Value.int .u32 ((x 3+(x 7+bits BinOp.xor IntKind.u32 (bits BinOp.xor IntKind.u32 (zAi (x 4) 6) (zAi (x 4) 11)) (zAi (x 4) 25)+
  bits BinOp.xor IntKind.u32 (bits BinOp.and IntKind.u32 (x 4) (x 5)) (bits BinOp.and IntKind.u32 (bits BinOp.xor IntKind.u32 (x 4) 4294967295) (x 6))+k+w))%4294967296),
 Value.int .u32 (x 4),Value.int .u32 (x 5),Value.int .u32 (x 6)]=row 8 (rnd x k w):=by
 have j:(x 7+bs1 (x 4)+cho (x 4) (x 5) (x 6)+k+w+(bs0 (x 0)+maj (x 0) (x 1) (x 2)))%4294967296=rnd x k w 0:=by
  show _=(x 7+bs1 (x 4)+cho (x 4) (x 5) (x 6)+k+w+bs0 (x 0)+maj (x 0) (x 1) (x 2))%4294967296
  omega
 have u:(x 3+(x 7+bs1 (x 4)+cho (x 4) (x 5) (x 6)+k+w))%4294967296=rnd x k w 4:=by
  show _=(x 3+x 7+bs1 (x 4)+cho (x 4) (x 5) (x 6)+k+w)%4294967296
  omega
 rw[←zPz (rnd x k w),←j,←u]
 rfl
structure SumR (w:World)(g:Nat)(st x:Nat→Int)(k:Nat)(wr:World):Prop where
 below:Below w.heap.size w wr
 cur:Words wr g 8 190 x
 res:Words wr (w.heap.size+1) 8 190 (fun _=>0)
 sum:∃f,Words wr w.heap.size 8 190 f∧(∀j,j<k→f j=(x j+st j)%4294967296)∧∀j,k≤j→f j=st j
theorem SumR.drew {w:World}{g:Nat}{st x:Nat→Int}{k:Nat}{wr:World}(h:SumR w g st x k wr):SumR w g st x k wr.drew:=⟨h.below.drew,h.cur,h.res,h.sum⟩
theorem SumR.step {w:World}{g:Nat}{st x:Nat→Int}{k:Nat}{wr:World}(h:SumR w g st x k wr)(F:w.heap.size+2≤g):SumR w g st x (k+1) (wr.setCell ⟨w.heap.size,k,none⟩ (.int .u32 ((st k+x k)%4294967296))):=by
 obtain⟨f,hf,u,A⟩:=h.sum
 refine⟨h.below.setCell (by simp) _,h.cur.other _ _ (by simp;omega),h.res.other _ _ (by simp),upd f k ((st k+x k)%4294967296),hf.put k _,fun j D=> ?_,fun j D=> ?_⟩
 ·unfold upd
  by_cases e:j=k
  ·rw[if_pos e,e,Int.add_comm]
  ·rw[if_neg e];exact u j (by omega)
 ·unfold upd
  rw[if_neg (by omega)];exact A j (by omega)
set_option maxHeartbeats 1000000 in
set_option maxRecDepth 100000 in
theorem zE4 (kt:Nat→Int)(st:Nat→Int)(s:ByteArray)(w:World)(h0:s.size=64)(hT:Tab w 2 kt)(h3:4≤w.heap.size):
 Calls Tryz.prog 105 #[.agg (row 8 st),.string s] w fun e w'=>e=.returned (.agg (row 8 (zBQ kt (wrd (zBk s)) st)))∧Below w.heap.size w w':=by
 have HT:Hid _:=hT
 clear hT
 go_enter Tryz.func105,Tryz.ntmps105
 go_wp2_with fail
 refine (zI1 s _ h0).mono ?_
 rintro e D ⟨rfl,F⟩
 have aB:w.heap.size+2≤D.heap.size:=by have:=F.size;simpa using this
 have a6:Words D w.heap.size 8 190 st:=Words.below (heap_alloc2_old _ _ _) F (by simp;omega)
 have a8:Words D (w.heap.size+1) 8 190 (fun _=>0):=Words.below (heap_alloc2_new _ _ _) F (by simp)
 have a7:Below w.heap.size w D:=(((Below.refl _ _).alloc (Nat.le_refl _) _).alloc (by simp) _).trans (F.mono (by simp;omega))
 have aI:(Tryz.prog.info? 232).map (·.size)=some (row 64 (wrd (zBk s))).size:=by rw[zU];exact zFd
 have u:(Tryz.prog.info? 190).map (·.size)=some (row 8 st).size:=by rw[zU];exact zCG
 clear F
 generalize hW:wrd (zBk s)=W at*
 have HW:Hid (wrd (zBk s)=W):=hW
 clear hW
 go_wp2_with (first|(refine zf rfl rfl 232 (.tmp 5) (.tmp 16) rfl D.heap.size (row 64 W) rfl rfl 232 _ (heap_alloc_new D _) aI (by rw[zU];rfl) (zAO _ _) ?_;intro J A;(have X:Words J w.heap.size 8 190 st:=by rw[A.out];exact (a6.alloc _).setRow_other _ _ (by omega)))|(refine wpList_load_row rfl 190 (.tmp 2) rfl w.heap.size rfl 190 (row 8 st) (0,0) _ X Tryz.underlying190 rfl u ?_)|(refine zf rfl rfl 190 (.tmp 6) (.tmp 17) rfl J.heap.size (row 8 st) rfl rfl 190 _ (heap_alloc_new J _) u (by rw[zU];rfl) (zAO _ _) ?_;intro w3 hw3))
 have aK:J.heap.size=D.heap.size+1:=by rw[A.out];simp
 have aG:D.heap.size<J.heap.size:=by omega
 have M3:PMem w D.heap.size J.heap.size st st W w3:=by
  have r1:Words J (w.heap.size+1) 8 190 (fun _=>0):=by rw[A.out];exact (a8.alloc _).setRow_other _ _ (by omega)
  have r2:Words J D.heap.size 64 232 W:=by rw[A.out];exact zAS W (heap_alloc_new D _)
  have r3:Below w.heap.size w J:=by rw[A.out];exact zT (a7.alloc (by omega) _) _ (by omega) _
  rw[hw3.out]
  exact⟨(X.alloc _).setRow_other _ _ (by omega),(r1.alloc _).setRow_other _ _ (by omega),(r2.alloc _).setRow_other _ _ (by omega),zAS st (heap_alloc_new J _),zT (r3.alloc (by omega) _) _ (by omega) _⟩
 generalize J.heap.size=gx at*
 generalize D.heap.size=g at*
 clear A hw3 a6 a8 a7 X aK
 go_loopw [7] (fun i wr=>∃k:Nat,k≤64∧i=.int .i64 k∧PMem w g gx st (zx kt W st k) W wr) (fun i _=>64-(intOf i).toNat)
 case atStart=>exact⟨0,by omega,rfl,M3⟩
 case round=>
  clear M3
  obtain⟨k,hk,rfl,M⟩:=hrel
  by_cases G:k<64
  ·obtain⟨x,hx⟩:∃x,zx kt W st k=x:=⟨_,rfl⟩
   have HS:Hid (zx kt W st (k+1)=rnd x (kt k) (W k)):=by rw[←hx];rfl
   rw[hx]at M
   clear hx
   have c4:=M.cur.cell 4 (by omega)
   go_wp2
   go_quiet ((go_at_call 145;exact Calls.quiet_of_same (zDf _ _ _ (by decide) (by decide))))
   obtain⟨wa,a1⟩:∃wq,wq=wr.drewN nq:=⟨_,rfl⟩
   rw[←a1]
   have U:PMem w g gx st x W wa:=by rw[a1];exact M.drewN _
   clear a1 c4 M
   have c4:=U.cur.cell 4 (by omega)
   have c5:=U.cur.cell 5 (by omega)
   have c6:=U.cur.cell 6 (by omega)
   have c7:=U.cur.cell 7 (by omega)
   have aE:wa.cell? ⟨2,k,none⟩=some (.int .u32 (kt k)):=Tab.below HT.out U.below (by omega) k G
   have aF:=U.wrd.cell k G
   go_wp2
   go_quiet (fail)
   obtain⟨wb,a2⟩:∃wq,wq=wa.drewN nq:=⟨_,rfl⟩
   rw[←a2]
   have Mb:PMem w g gx st x W wb:=by rw[a2];exact U.drewN _
   clear a2 c4 c5 c6 c7 aE aF U
   have c0:=Mb.cur.cell 0 (by omega)
   go_wp2
   go_quiet ((go_at_call 145;exact Calls.quiet_of_same (zDf _ _ _ (by decide) (by decide))))
   obtain⟨wc,a4⟩:∃wq,wq=wb.drewN nq:=⟨_,rfl⟩
   rw[←a4]
   have N:PMem w g gx st x W wc:=by rw[a4];exact Mb.drewN _
   clear a4 c0 Mb
   have c0:=N.cur.cell 0 (by omega)
   have c1:=N.cur.cell 1 (by omega)
   have c2:=N.cur.cell 2 (by omega)
   have c3:=N.cur.cell 3 (by omega)
   have c4:=N.cur.cell 4 (by omega)
   have c5:=N.cur.cell 5 (by omega)
   have c6:=N.cur.cell 6 (by omega)
   have a9:=N.cur
   go_wp2_with (refine zf rfl rfl 190 (.tmp 6) (.tmp 109) rfl gx _ rfl rfl 190 (row 8 x) a9 (by exact zCG) (by rw[zU];rfl) (zO8 _ _ _ _ _ _ _ _) ?_;intro wd aJ)
   go_roundw
   case rel=>
    refine⟨k+1,by omega,by go_num,?_⟩
    rw[HS.out,aJ.out,zP4]
    exact N.setRow aB aG _
   case measure=>simp[intOf];omega
  ·have aA:k=64:=by omega
   subst aA
   obtain⟨x,hx⟩:∃x,zx kt W st 64=x:=⟨_,rfl⟩
   have HX:Hid (zx kt W st 64=x):=hx
   rw[hx]at M
   clear hx
   go_wp2
   go_loopw [14] (fun i wr=>∃k:Nat,k≤8∧i=.int .i64 k∧SumR w gx st x k wr) (fun i _=>8-(intOf i).toNat)
   case atStart=>exact⟨0,by omega,rfl,M.below,M.cur,M.res,st,M.own,fun j hj=>by omega,fun j _=>rfl⟩
   case round=>
    clear M
    obtain⟨k,hk,rfl,S⟩:=hrel
    by_cases G:k<8
    ·obtain⟨f,hf,Q,R⟩:=S.sum
     have c1:=hf.cell k G
     rw[R k (Nat.le_refl _)]at c1
     have c2:=hf.free k
     have c3:=S.cur.cell k G
     clear Q R hf
     go_wp2
     go_region
     go_wp2
     go_roundw
     case rel=>exact⟨k+1,by omega,by go_num,S.drew.step (by omega)⟩
     case measure=>simp[intOf];omega
    ·have aH:k=8:=by omega
     subst aH
     obtain⟨f,hf,Q,R⟩:=S.sum
     have HF:Hid _:=Q
     clear Q R
     have hR:=S.res
     have u:(Tryz.prog.info? 190).map (·.size)=some (row 8 f).size:=by rw[zU];exact zCG
     have Z:(row 8 (fun _=>0)).size=(row 8 f).size:=by simp[zU]
     go_wp2_with (first|(refine wpList_load_row rfl 190 (.tmp 2) rfl w.heap.size rfl 190 (row 8 f) (0,0) _ hf Tryz.underlying190 rfl u ?_)|(refine wpList_store_row rfl 190 (.tmp 4) (.tmp 123) rfl (w.heap.size+1) (row 8 f) rfl rfl 190 (row 8 fun _=>0) hR u Z (zAO _ _) ?_))
     have e:row 8 f=row 8 (zBQ kt W st):=zBS 8 _ _ (by
      intro j hj;rw[HF.out j hj];unfold zBQ;rw[HX.out])
     refine bodyPost_ret (v:=.agg (row 8 f)) ?_ rfl ?_
     ·exact results_cell_row Tryz.results105 _ _ (w.heap.size+1) 190 (row 8 f) (0,0) _ rfl (setRow_heap wr (w.heap.size+1) _ _ 190 (0,0) hR) Tryz.underlying190 rfl u
     ·rw[e,←HW.out]
      exact⟨rfl,zT S.below _ (by omega) _⟩
def zBB (s:ByteArray)(j:Nat):ByteArray:=s.extract (64*j) (64*j+64)
def pcs (kt:Nat→Int)(s:ByteArray)(st:Nat→Int):Nat→Nat→Int
 |0=>st
 |j+1=>zBQ kt (wrd (zBk (zBB s j))) (pcs kt s st j)
theorem zDp (s:ByteArray)(i:Nat):0≤byt s i:=by unfold byt;omega
theorem zDo (s:ByteArray)(i:Nat):byt s i≤255:=by
 unfold byt
 have:=(s.data.toList.getD i 0).toNat_lt
 omega
theorem zH6 (a b c d:Nat)(hb:b<256)(D:c<256)(hd:d<256):((a*16777216|||b*65536)|||c*256)|||d=a*16777216+b*65536+c*256+d:=by
 have j:a*16777216|||b*65536=a*16777216+b*65536:=by
  have:=Nat.two_pow_add_eq_or_of_lt (i:=24) (b:=b*65536) (by omega) a
  rw[show a*16777216=2 ^ 24*a by omega];exact this.symm
 have u:(a*16777216+b*65536)|||c*256=a*16777216+b*65536+c*256:=by
  have:=Nat.two_pow_add_eq_or_of_lt (i:=16) (b:=c*256) (by omega) (a*256+b)
  rw[show a*16777216+b*65536=2 ^ 16*(a*256+b) by omega];exact this.symm
 have A:(a*16777216+b*65536+c*256)|||d=a*16777216+b*65536+c*256+d:=by
  have:=Nat.two_pow_add_eq_or_of_lt (i:=8) (b:=d) (by omega) (a*65536+b*256+c)
  rw[show a*16777216+b*65536+c*256=2 ^ 8*(a*65536+b*256+c) by omega];exact this.symm
 rw[j,u,A]
theorem zNb (s:ByteArray)(k:Nat):zGT s k=zBk s k:=by
 obtain⟨a,j⟩:=Int.eq_ofNat_of_zero_le (zDp s (4*k))
 obtain⟨b,hb⟩:=Int.eq_ofNat_of_zero_le (zDp s (4*k+1))
 obtain⟨c,u⟩:=Int.eq_ofNat_of_zero_le (zDp s (4*k+2))
 obtain⟨d,hd⟩:=Int.eq_ofNat_of_zero_le (zDp s (4*k+3))
 have A:=zDo s (4*k)
 have D:=zDo s (4*k+1)
 have F:=zDo s (4*k+2)
 have G:=zDo s (4*k+3)
 rw[j]at A;rw[hb]at D;rw[u]at F;rw[hd]at G
 unfold zGT zBk
 rw[j,hb,u,hd]
 rw[show (a:Int)%4294967296*16777216%4294967296=((a*16777216:Nat):Int) by omega,show (b:Int)%4294967296*65536%4294967296=((b*65536:Nat):Int) by omega,show (c:Int)%4294967296*256%4294967296=((c*256:Nat):Int) by omega,show (d:Int)%4294967296=((d:Nat):Int) by omega]
 have o:=zH6 a b c d (by omega) (by omega) (by omega)
 rw[u32_or_nat _ _ (by omega) (by omega),u32_or_nat _ _ ?_ (by omega),u32_or_nat _ _ ?_ (by omega),o]
 ·omega
 ·have:=Nat.le_trans (Nat.left_le_or (n:=(a*16777216|||b*65536)|||c*256) (m:=d)) (Nat.le_of_eq o)
  omega
 ·have l1:=Nat.left_le_or (n:=a*16777216|||b*65536) (m:=c*256)
  have J:=Nat.le_trans (Nat.left_le_or (n:=(a*16777216|||b*65536)|||c*256) (m:=d)) (Nat.le_of_eq o)
  omega
theorem zON (s:ByteArray):wrd (zGT s)=wrd (zBk s):=funext fun i=>zEX _ _ (fun j _=>zNb s j) i
theorem zCx (s:ByteArray)(j:Nat)(h:64*j+64≤s.size):(zBB s j).size=64:=by
 unfold zBB;rw[ByteArray.size_extract];omega
structure zM3 (w:World)(g:Nat)(y:Nat→Int):Prop where
 c0:w.cell? ⟨g,0,none⟩=some (.int .u32 (y 0))
 c1:w.cell? ⟨g,1,none⟩=some (.int .u32 (y 1))
 c2:w.cell? ⟨g,2,none⟩=some (.int .u32 (y 2))
 c3:w.cell? ⟨g,3,none⟩=some (.int .u32 (y 3))
 c4:w.cell? ⟨g,4,none⟩=some (.int .u32 (y 4))
 c5:w.cell? ⟨g,5,none⟩=some (.int .u32 (y 5))
 c6:w.cell? ⟨g,6,none⟩=some (.int .u32 (y 6))
 c7:w.cell? ⟨g,7,none⟩=some (.int .u32 (y 7))
 free:∀j,w.frozen? ⟨g,j,none⟩=false
theorem Words.cells8 {w:World}{g:Nat}{y:Nat→Int}(h:Words w g 8 190 y):zM3 w g y:=⟨h.cell 0 (by omega),h.cell 1 (by omega),h.cell 2 (by omega),h.cell 3 (by omega),h.cell 4 (by omega),h.cell 5 (by omega),h.cell 6 (by omega),h.cell 7 (by omega),h.free⟩
theorem zOT {w:World}{g:Nat}{x y:Nat→Int}(h:Words w g 8 190 x):Words ((((((((w.setCell ⟨g,0,none⟩ (.int .u32 (y 0))).setCell ⟨g,1,none⟩ (.int .u32 (y 1))).setCell ⟨g,2,none⟩ (.int .u32 (y 2))).setCell ⟨g,3,none⟩ (.int .u32 (y 3))).setCell ⟨g,4,none⟩ (.int .u32 (y 4))).setCell ⟨g,5,none⟩ (.int .u32 (y 5))).setCell ⟨g,6,none⟩ (.int .u32 (y 6))).setCell ⟨g,7,none⟩ (.int .u32 (y 7))) g 8 190 y:=by
 have j:=(((((((h.put 0 (y 0)).put 1 (y 1)).put 2 (y 2)).put 3 (y 3)).put 4 (y 4)).put 5 (y 5)).put 6 (y 6)).put 7 (y 7)
 unfold Words at j ⊢
 rw[j]
 congr 2
theorem zGk {w:World}{g k n:Nat}{t:TypeId}{f y:Nat→Int}(h:Words w k n t f)(hk:k≠g):Words ((((((((w.setCell ⟨g,0,none⟩ (.int .u32 (y 0))).setCell ⟨g,1,none⟩ (.int .u32 (y 1))).setCell ⟨g,2,none⟩ (.int .u32 (y 2))).setCell ⟨g,3,none⟩ (.int .u32 (y 3))).setCell ⟨g,4,none⟩ (.int .u32 (y 4))).setCell ⟨g,5,none⟩ (.int .u32 (y 5))).setCell ⟨g,6,none⟩ (.int .u32 (y 6))).setCell ⟨g,7,none⟩ (.int .u32 (y 7))) k n t f:=
 (((((((h.other _ _ hk).other _ _ hk).other _ _ hk).other _ _ hk).other _ _ hk).other _ _ hk).other _ _ hk).other _ _ hk
theorem zAv {W w:World}{g:Nat}{y:Nat→Int}(h:Below g W w):Below g W ((((((((w.setCell ⟨g,0,none⟩ (.int .u32 (y 0))).setCell ⟨g,1,none⟩ (.int .u32 (y 1))).setCell ⟨g,2,none⟩ (.int .u32 (y 2))).setCell ⟨g,3,none⟩ (.int .u32 (y 3))).setCell ⟨g,4,none⟩ (.int .u32 (y 4))).setCell ⟨g,5,none⟩ (.int .u32 (y 5))).setCell ⟨g,6,none⟩ (.int .u32 (y 6))).setCell ⟨g,7,none⟩ (.int .u32 (y 7))):=
 (((((((h.setCell (Nat.le_refl _) _).setCell (Nat.le_refl _) _).setCell (Nat.le_refl _) _).setCell (Nat.le_refl _) _).setCell (Nat.le_refl _) _).setCell (Nat.le_refl _) _).setCell (Nat.le_refl _) _).setCell (Nat.le_refl _) _
theorem zNr (w:World):(Instr.makeSlice 173 (.int .i64 0) (.int .i64 32)).run Tryz.prog w=.ok (.slice (some ⟨w.heap.size,0,none⟩) 0 32) (w.alloc (.cells (Array.replicate 32 (.int .u8 0)) 5)):=by kernel_rfl
theorem zNE:(Tryz.prog.info? 5).map (fun i=>(i.zero,i.size,i.bytes))=some (some (.int .u8 0),1,1):=by kernel_rfl
def tl (st:Nat→Int):Nat→List Int
 |0=>[]
 |k+1=>tl st k++[st k/16777216%256,st k/65536%256,st k/256%256,st k%256]
theorem zEQ (st:Nat→Int)(k:Nat):(tl st k).length=4*k:=by
 induction k with
 |zero=>rfl
 |succ k ih=>simp[tl,ih];omega
set_option maxHeartbeats 1000000 in
set_option maxRecDepth 100000 in
theorem zKG (st:Nat→Int)(w:World):
 Calls Tryz.prog 137 #[.agg (row 8 st)] w fun e w'=>e=.returned (.string (strOfNums (tl st 8)))∧Below w.heap.size w w':=by
 have a4:=zNr
 have hA:Words ((w.alloc (Obj.cells (row 8 st) 190)).alloc (Obj.cells (Array.replicate 32 (Value.int IntKind.u8 0)) 5)) w.heap.size 8 190 st:=heap_alloc2_old _ _ _
 have N:(Tryz.prog.info? 190).map (·.size)=some (row 8 st).size:=by rw[zU];exact zCG
 go_enter Tryz.func137,Tryz.ntmps137
 go_wp2_with (refine wpList_load_row rfl 190 (.tmp 1) rfl w.heap.size rfl 190 (row 8 st) (0,0) _ (heap_alloc2_old _ _ _) Tryz.underlying190 rfl N ?_)
 obtain⟨i0,hi,a5,W,a6⟩:=info_parts zNE
 go_loopw [8,3] (fun i v wr=>∃k:Nat,k≤8∧i=.int .i64 k∧v=.slice (some ⟨w.heap.size+1,0,none⟩) (4*k) 32∧wr.ownsRow (w.heap.size+1) 5 1 (.slice (some ⟨w.heap.size+1,0,none⟩) (4*k) 32) (4*k) ((tl st k).map (Value.int .u8))∧Below w.heap.size w wr) (fun i _ _=>8-(intOf i).toNat)
 case atStart=>
  refine⟨0,by omega,rfl,rfl,⟨rfl,Or.inr ⟨w.heap.size+1,32,_,rfl,Nat.le_refl _,heap_alloc2_new _ _ _,by omega,by unfold maxLen;omega,by simp,by simp[tl]⟩⟩,((Below.refl _ _).alloc (Nat.le_refl _) _).alloc (by simp) _⟩
 case round=>
  obtain⟨k,hk,rfl,rfl,F,hb⟩:=hrel
  by_cases U:k<8
  ·have a2:=fun Z=>zD0 8 190 st k U Z Tryz.underlying190
   go_wp2_with (at_builtin;refine wpList_append_fits _ rfl (.tmp 11) (.tmp 23) 173 rfl (w.heap.size+1) 5 i0 1 Tryz.underlying173 hi W (w.heap.size+1) (4*k) 32 ((tl st k).map (Value.int .u8)) rfl (F.alloc _) ⟨wr.heap.size,0,none⟩ 4 4 [.int .u8 (st k/16777216%256),.int .u8 (st k/65536%256),.int .u8 (st k/256%256),.int .u8 (st k%256)] rfl rfl ?c1 ?c2 ?c3 ?_)
   case c1=>
    intro j u A
    match j,A with
    |0,A=>simp at A;subst A;simp[Addr.add]
    |1,A=>simp at A;subst A;simp[Addr.add]
    |2,A=>simp at A;subst A;simp[Addr.add]
    |3,A=>simp at A;subst A;simp[Addr.add]
   case c2=>intro u X;simp at X;rcases X with rfl|rfl|rfl|rfl<;>rfl
   case c3=>omega
   intro w' G D
   have Q:Below w.heap.size w w':=(hb.alloc (by have:=hb.size;omega) _).grown D (by have:=hb.size;simp;omega) (fun k hk=>by cases hk;omega)
   have J:w'.ownsRow (w.heap.size+1) 5 1 (.slice (some ⟨w.heap.size+1,0,none⟩) (4*(k+1)) 32) (4*(k+1)) ((tl st (k+1)).map (Value.int .u8)):=by
    have e:4*(k+1)=4*k+4:=by omega
    rw[e];simpa[tl] using G
   clear G D F hb
   go_wp2
   go_roundw
   case rel=>exact⟨k+1,by omega,by go_num,by congr 1,J,Q⟩
   case measure=>simp[intOf];omega
  ·have R:k=8:=by omega
   subst R
   have a1:=run_convert_bytes_arg (P:=Tryz.prog) wr 173 5 Tryz.underlying173 Tryz.underlying5 (w.heap.size+1) 0 32 32 (tl st 8) (zEQ st 8) (fun i hi=>by
    rw[Nat.zero_add,F.cellAt i (by omega)]
    have hl:i<(tl st 8).length:=by rw[zEQ];omega
    rw[List.getElem?_map,List.getElem?_eq_getElem hl,List.getD_eq_getElem?_getD,List.getElem?_eq_getElem hl];rfl) 9 Tryz.underlying9
   go_wp2
   go_ret
   exact⟨rfl,hb⟩
end Go.Proofs.YtlopecgkiikdhaaGreatDoor
