import Derived.Test.YtlopecgkiikdhaaGreatDoorX09
namespace Go.Proofs.YtlopecgkiikdhaaGreatDoor
open Go.RowKit
def zBp (n:Nat)(f:Nat→Int):Array Value:=Array.ofFn (n:=n) fun i=>Value.int .u8 (f i.val)
theorem zDn (n:Nat)(f:Nat→Int):(zBp n f).size=n:=by simp[zBp]
theorem zBF (n:Nat)(f:Nat→Int)(k:Nat)(h:k<n):(zBp n f)[k]? =some (.int .u8 (f k)):=by
 simp[zBp,h]
theorem zBG (n:Nat)(f:Nat→Int)(k:Nat)(h:¬k<n):(zBp n f)[k]? =none:=by
 simp[zBp,h]
theorem zJH (n:Nat)(f:Nat→Int)(k:Nat)(v:Int):(zBp n f).setIfInBounds k (.int .u8 v)=zBp n (upd f k v):=by
 apply Array.ext_getElem?
 intro i
 rw[Array.getElem?_setIfInBounds,zDn]
 by_cases hi:i<n
 ·rw[zBF n f i hi,zBF n _ i hi]
  by_cases h:k=i
  ·subst h;simp[hi,upd]
  ·simp[h,upd,Ne.symm h]
 ·rw[zBG n f i hi,zBG n _ i hi]
  by_cases h:k=i
  ·subst h;simp[hi]
  ·simp[h]
def Byts (w:World)(g n:Nat)(f:Nat→Int):Prop:=w.heap[g]? =some (.cells (zBp n f) 5 (0,0))
theorem Byts.cell {w:World}{g n:Nat}{f:Nat→Int}(h:Byts w g n f)(k:Nat)(hk:k<n):w.cell? ⟨g,k,none⟩=some (.int .u8 (f k)):=by
 rw[cell_of_row w g k _ 5 _ h,zBF n f k hk]
theorem Byts.free {w:World}{g n:Nat}{f:Nat→Int}(h:Byts w g n f)(k:Nat):w.frozen? ⟨g,k,none⟩=false:=frozen_of_row w g k _ 5 h
theorem Byts.put {w:World}{g n:Nat}{f:Nat→Int}(h:Byts w g n f)(k:Nat)(v:Int):Byts (w.setCell ⟨g,k,none⟩ (.int .u8 v)) g n (upd f k v):=by
 have:=heap_setCell_same w g k _ 5 (.int .u8 v) h
 rwa [zJH]at this
theorem Byts.to {w:World}{g n:Nat}{f h:Nat→Int}(b:Byts w g n f)(e:∀j,j<n→f j=h j):Byts w g n h:=by
 have:zBp n f=zBp n h:=by
  apply Array.ext
  ·simp[zBp]
  ·intro i u A
   simp only[zBp,Array.getElem_ofFn]
   rw[e i (by simpa[zBp] using u)]
 unfold Byts;rw[←this];exact b
def zJt (s:ByteArray)(f:Nat→Int):Nat→Int:=fun j=>if j<s.size then byt s j else f j
theorem zEh (s:ByteArray)(i:Nat)(h:i<s.size):byt s i=((s.data[i]'h).toNat:Int):=by
 have hs:i<s.data.toList.length:=h
 unfold byt
 rw[List.getD_eq_getElem?_getD,List.getElem?_eq_getElem hs]
 rfl
theorem zDZ {w:World}{g n:Nat}{f:Nat→Int}(h:Byts w g n f)(s:ByteArray)(hs:s.size≤n)(G:Nat)(X W:TypeId):
 (Builtin.copy_ #[173,W] X #[.slice (some ⟨g,0,none⟩) n G,.string s]).run Tryz.prog w=.ok (goInt s.size) (w.setRow g (zBp n (zJt s f))):=by
 have F:Nat.min s.size n=s.size:=Nat.min_eq_left hs
 have N:(Tryz.prog.info? 5).map (·.size)=some 1:=by kernel_rfl
 have u:=run_storeCells_at Tryz.prog g 0 5 ((s.extract 0 s.size).data.map fun b=>Value.int .u8 b.toNat).toList 0 (zBp n f) w h (by simp[zDn];omega) (by intro v R;simp at R;obtain⟨b,_,rfl⟩:=R;rfl)
 have Q:s.extract 0 s.size=s:=by simp
 have A:((zBp n f).toList.take (0+0)++((s.extract 0 s.size).data.map fun b=>Value.int .u8 b.toNat).toList++(zBp n f).toList.drop (0+0+((s.extract 0 s.size).data.map fun b=>Value.int .u8 b.toNat).toList.length)).toArray=zBp n (zJt s f):=by
  rw[Q]
  apply Array.ext_getElem?
  intro i
  by_cases hi:i<n
  ·rw[zBF n _ i hi]
   by_cases D:i<s.size
   ·simp[zJt,D,zEh s i D,List.getElem?_append]
   ·have J:s.size+(i-s.size)=i:=by omega
    have j:=zBF n f i hi
    simp[zJt,D,List.getElem?_append,J,j]
  ·have D:¬i<s.size:=by omega
   have J:s.size+(i-s.size)=i:=by omega
   have j:=zBG n f i hi
   rw[zBG n _ i hi]
   simp[List.getElem?_append,D,J,j]
 rw[A]at u
 cases hq:Tryz.prog.info? 5 with
 |none=>simp[hq]at N
 |some i=>
  simp[Builtin.copy_,run_underlying Tryz.underlying173,Builtin.lenOf,Builtin.firstCells,sizeOf,typeInfo,hq,F]
  rw[Q]at u
  have U:List.take s.size (List.map (fun b=>Value.int IntKind.u8 (b.toNat:Int)) s.data.toList)=(Array.map (fun b=>Value.int IntKind.u8 (b.toNat:Int)) s.data).toList:=by
   rw[List.take_of_length_le (by simp),Array.toList_map]
  rw[U,u]
  rfl
theorem zAh {w:World}{D:Array Oper}{j:List Oper}{o:Oper}{a:Act}{Q:Exit→Act→World→Prop}(G:o.guard=none)(d s:Operand)
 (R:o.op=.call { callee:=.builtin .copy,args:= #[d,s],argTypes:= #[173,9] }) (g n u:Nat) (f:Nat→Int) (h:Byts w g n f) (t:ByteArray) (U:t.size≤n)
 (hd:a.eval d=.slice (some ⟨g,0,none⟩) n u) (hs:a.eval s=.string t)
 (N:∀J,Hid (J=w.setRow g (zBp n (zJt t f)))→wpList Tryz.prog D Q j (a.put o.dst (goInt t.size)) J):wpList Tryz.prog D Q (o::j) a w:=by
 refine wpList_plain G fun K F=> ?_
 have A:=zDZ h t U u o.type 9
 unfold Oper.wp
 simp[execOp,R,resolve,invoke,builtin,hd,hs,A,Result.andThen]
 exact F _ _ (N _ rfl)
theorem zB6 {w:World}{g n:Nat}{old:Array Value}(f:Nat→Int)(h:w.heap[g]? =some (.cells old 5 (0,0))):Byts (w.setRow g (zBp n f)) g n f:=setRow_heap w g old _ 5 _ h
def txt (n:Nat)(f:Nat→Int):ByteArray:=strOfNums ((List.range n).map f)
theorem zBh {w:World}{g n:Nat}{f:Nat→Int}(h:Byts w g n f)(j:Nat):(convert 173 9 (.slice (some ⟨g,0,none⟩) n j)).run Tryz.prog w=.ok (.string (txt n f)) w:=by
 refine run_convert_bytes_arg (P:=Tryz.prog) w 173 5 Tryz.underlying173 Tryz.underlying5 g 0 n j ((List.range n).map f) (by simp) (fun i hi=> ?_) 9 Tryz.underlying9
 rw[Nat.zero_add,h.cell i hi]
 simp[hi]
def zIL (s:ByteArray):Nat→ByteArray
 |0=>s++⟨#[128]⟩
 |k+1=>zIL s k++⟨#[0]⟩
theorem zAp (s:ByteArray)(k:Nat):(zIL s k).size=s.size+1+k:=by
 induction k with
 |zero=>simp[zIL];rfl
 |succ k ih=>simp[zIL,ih];rfl
def zPj:Value→Nat| .string s=>s.size|_=>0
def nz (s:ByteArray):Nat:=(119-s.size%64)%64
def zI9 (a s:ByteArray):Nat→ByteArray
 |0=>a
 |j+1=>zI9 a s j++strOfNums [((s.size:Int)*8/2 ^ (8*(7-j))).tmod 256%256]
theorem zCR (a s:ByteArray)(k:Nat):(zI9 a s k).size=a.size+k:=by
 induction k with
 |zero=>rfl
 |succ k ih=>simp[zI9,ih,strOfNums_size];omega
def zGl (s:ByteArray):ByteArray:=zI9 (zIL s (nz s)) s 8
set_option maxHeartbeats 1000000 in
set_option maxRecDepth 100000 in
theorem zGm (s:ByteArray)(w:World)(h0:s.size≤140737488351232):
 Calls Tryz.prog 104 #[.string s] w fun e w'=>e=.returned (.string (zGl s))∧Below w.heap.size w w':=by
 have hz:nz s<64:=by unfold nz;omega
 have Z:Hid ((s.size+1+nz s)%64=56):=by show (s.size+1+nz s)%64=56;unfold nz;omega
 have A:Hid (∀k,k<nz s→(s.size+1+k)%64≠56):=by show ∀k,k<nz s→(s.size+1+k)%64≠56;intro k;unfold nz;omega
 have hT:Hid (zGl s=zI9 (zIL s (nz s)) s 8):=rfl
 obtain⟨z,G⟩:∃z,z=nz s:=⟨_,rfl⟩
 rw[←G]at hz Z A hT
 clear G
 go_enter Tryz.func104,Tryz.ntmps104
 go_wp2
 go_loop [3] (fun v=>∃k:Nat,k≤z∧v=.string (zIL s k)) (fun v=>s.size+1+z-zPj v)
 case atStart=>exact⟨0,by omega,rfl⟩
 case round=>
  obtain⟨k,hk,rfl⟩:=hrel
  obtain⟨a,J⟩:∃a,a=zIL s k:=⟨_,rfl⟩
  rw[←J]
  have W:Hid (a=zIL s k):=J
  have D:(a.size:Int)=s.size+1+k:=by rw[J,zAp];omega
  have a2:a.size≤140737488355328:=by omega
  have u:Hid ((a.size:Int)=s.size+1+k):=D
  clear J D
  by_cases F:k<z
  ·have U:((a.size:Int)%64 != 56)=true:=by have:=A.out k F;have:=u.out;rw[bne_iff_ne];omega
   go_wp2
   go_round
   case rel=>exact⟨k+1,by omega,by rw[W.out];rfl⟩
   case measure=>have:=u.out;have e:(a++(⟨#[0]⟩:ByteArray)).size=a.size+1:=(by simp;rfl);simp only[zPj];omega
  ·have R:k=z:=by omega
   subst R
   have U:((a.size:Int)%64 != 56)=false:=by have:=Z.out;have:=u.out;rw[bne_eq_false_iff_eq];omega
   go_wp2
   go_loopw [5,3] (fun i v wr=>∃j:Nat,j≤8∧i=.int .i64 (7-j)∧v=.string (zI9 a s j)∧Below w.heap.size w wr) (fun i _ _=>((intOf i)+1).toNat)
   case atStart=>exact⟨0,by omega,rfl,rfl,Below.refl _ _⟩
   case round=>
    obtain⟨j,hj,rfl,rfl,hb⟩:=hrel
    obtain⟨c,N⟩:∃c,c=zI9 a s j:=⟨_,rfl⟩
    rw[←N]
    have X:Hid (c=zI9 a s j):=N
    have a5:c.size≤140737488355340:=by rw[N,zCR];omega
    clear N
    by_cases F:j<8
    ·have a6:=run_convert_bytes_arg (P:=Tryz.prog) (wr.alloc (Obj.cells #[Value.int IntKind.u8 (((s.size:Int)*8/2 ^ (8*(7-j))).tmod 256%256)] 5)) 173 5 Tryz.underlying173 Tryz.underlying5 wr.heap.size 0 1 1 [((s.size:Int)*8/2 ^ (8*(7-j))).tmod 256%256] rfl (fun i hi=>by
      obtain rfl:i=0:=by omega
      rw[cell_of_row _ _ _ _ 5 (0,0) (heap_alloc_new wr _)];rfl) 9 Tryz.underlying9
     have a4:(strOfNums [((s.size:Int)*8/2 ^ (8*(7-j))).tmod 256%256]).size=1:=rfl
     go_wp2
     go_roundw
     case rel=>exact⟨j+1,by omega,by go_num,by rw[X.out];rfl,hb.alloc hb.size _⟩
     case measure=>simp[intOf];omega
    ·have Q:j=8:=by omega
     subst Q
     go_wp2
     go_ret
     exact⟨by rw[hT.out,←W.out,←X.out];rfl,hb⟩
set_option maxHeartbeats 1000000 in
set_option maxRecDepth 100000 in
theorem zMF (kt:Nat→Int)(st:Nat→Int)(s:ByteArray)(w:World)(h0:s.size=64)(hT:Tab w 3 kt)(h3:4≤w.heap.size):
 Calls Tryz.prog 169 #[.agg (row 8 st),.string s] w fun e w'=>e=.returned (.agg (row 8 (zBQ kt (wrd (zGT s)) st)))∧Below w.heap.size w w':=by
 have HT:Hid _:=hT
 clear hT
 go_enter Tryz.func169,Tryz.ntmps169
 go_wp2_with fail
 refine (zIc s _ h0).mono ?_
 rintro e A ⟨rfl,D⟩
 have U:w.heap.size+2≤A.heap.size:=by have:=D.size;simpa using this
 have a6:Words A w.heap.size 8 190 st:=Words.below (heap_alloc2_old _ _ _) D (by simp;omega)
 have a8:Words A (w.heap.size+1) 8 190 (fun _=>0):=Words.below (heap_alloc2_new _ _ _) D (by simp)
 have a7:Below w.heap.size w A:=(((Below.refl _ _).alloc (Nat.le_refl _) _).alloc (by simp) _).trans (D.mono (by simp;omega))
 have aA:(Tryz.prog.info? 232).map (·.size)=some (row 64 (wrd (zGT s))).size:=by rw[zU];exact zFd
 clear D
 generalize hW:wrd (zGT s)=W at*
 have HW:Hid (wrd (zGT s)=W):=hW
 clear hW
 go_wp2_with (refine zf rfl rfl 232 (.tmp 5) (.tmp 23) rfl A.heap.size (row 64 W) rfl rfl 232 _ (heap_alloc_new A _) aA (by rw[zU];rfl) (zAO _ _) ?_;intro w2 u)
 have M2:Mem w A.heap.size st (fun _=>0) W w2:=by
  refine⟨?_,?_,?_,?_,U,?_⟩
  ·rw[u.out];exact (a6.alloc _).setRow_other _ _ (by omega)
  ·rw[u.out];exact (a8.alloc _).setRow_other _ _ (by omega)
  ·rw[u.out];exact zAS W (heap_alloc_new A _)
  ·rw[u.out];exact zT (a7.alloc (by omega) _) _ (by omega) _
  ·rw[u.out];simp
 clear u a6 a8 a7 U
 have c0:=M2.own.cell 0 (by omega)
 have c1:=M2.own.cell 1 (by omega)
 have c2:=M2.own.cell 2 (by omega)
 have c3:=M2.own.cell 3 (by omega)
 go_quiet (fail)
 go_wp2
 obtain⟨w3,Z⟩:∃wq,wq=w2.drewN nq:=⟨_,rfl⟩
 rw[←Z]
 have M3:Mem w A.heap.size st (fun _=>0) W w3:=by rw[Z];exact M2.drewN _
 clear Z c0 c1 c2 c3 M2
 have c4:=M3.own.cell 4 (by omega)
 have c5:=M3.own.cell 5 (by omega)
 have c6:=M3.own.cell 6 (by omega)
 have c7:=M3.own.cell 7 (by omega)
 go_quiet (fail)
 obtain⟨w4,J⟩:∃wq,wq=w3.drewN nq:=⟨_,rfl⟩
 rw[←J]
 have R:Mem w A.heap.size st (fun _=>0) W w4:=by rw[J];exact M3.drewN _
 clear J c4 c5 c6 c7 M3
 have J:Words w4 A.heap.size 64 232 W:=R.wrd
 go_wp2_with (refine wpList_load_row rfl 232 (.tmp 5) rfl A.heap.size rfl 232 (row 64 W) (0,0) _ J Tryz.underlying232 rfl aA ?_)
 go_loop [41,6,7,8,9,10,11,12,13] (fun i a b c d e f g h=>∃k:Nat,k≤64∧i=.int .i64 k∧a=.int .u32 (zx kt W st k 0)∧b=.int .u32 (zx kt W st k 1)∧c=.int .u32 (zx kt W st k 2)∧d=.int .u32 (zx kt W st k 3)∧e=.int .u32 (zx kt W st k 4)∧f=.int .u32 (zx kt W st k 5)∧g=.int .u32 (zx kt W st k 6)∧h=.int .u32 (zx kt W st k 7)) (fun i _ _ _ _ _ _ _ _=>64-(intOf i).toNat)
 case atStart=>exact⟨0,by omega,rfl,rfl,rfl,rfl,rfl,rfl,rfl,rfl,rfl⟩
 case round=>
  obtain⟨k,hk,rfl,rfl,rfl,rfl,rfl,rfl,rfl,rfl,rfl⟩:=hrel
  by_cases G:k<64
  ·have aQ:w4.cell? ⟨3,k,none⟩=some (.int .u32 (kt k)):=Tab.below HT.out R.below (by omega) k G
   have aR:=fun Wx=>zD0 64 232 W k G Wx Tryz.underlying232
   obtain⟨x,hx⟩:∃x,zx kt W st k=x:=⟨_,rfl⟩
   have HS:Hid (zx kt W st (k+1)=rnd x (kt k) (W k)):=by rw[←hx];rfl
   rw[hx]
   clear hx
   go_wp2_with (go_at_call 182;refine (zKy _ _ _ (by decide) (by decide)).mono ?_;rintro e w' ⟨rfl,rfl⟩)
   go_round
   case rel=>
    refine⟨k+1,by omega,by go_num,?_⟩
    rw[HS.out]
    exact⟨congrArg (Value.int .u32) (zPG x _ _),rfl,rfl,rfl,congrArg (Value.int .u32) (zPH x _ _),rfl,rfl,rfl⟩
   case measure=>simp[intOf];omega
  ·have a9:k=64:=by omega
   subst a9
   have aS:w.heap.size+2≤w4.heap.size:=by have:=R.lo;have:=R.size;omega
   obtain⟨x,hx⟩:∃x,zx kt W st 64=x:=⟨_,rfl⟩
   have HX:Hid (zx kt W st 64=x):=hx
   rw[hx]
   clear hx
   go_wp2
   go_loopw [115] (fun i wr=>∃k:Nat,k≤8∧i=.int .i64 k∧SumMem w w4.heap.size st x k wr) (fun i _=>8-(intOf i).toNat)
   case atStart=>exact⟨0,by omega,rfl,R.below.alloc (by omega) _,R.own.alloc _,R.res.alloc _,x,heap_alloc_new w4 _,fun j hj=>by omega,fun j _=>rfl⟩
   case round=>
    clear R
    obtain⟨k,hk,rfl,S⟩:=hrel
    by_cases G:k<8
    ·obtain⟨f,hf,N,Q⟩:=S.sum
     have c1:=hf.cell k G
     rw[Q k (Nat.le_refl _)]at c1
     have c2:=hf.free k
     have c3:=S.own.cell k G
     clear N Q hf
     go_wp2
     go_region
     go_wp2
     go_roundw
     case rel=>exact⟨k+1,by omega,by go_num,S.drew.step (by omega)⟩
     case measure=>simp[intOf];omega
    ·have aB:k=8:=by omega
     subst aB
     obtain⟨f,hf,N,Q⟩:=S.sum
     have HF:Hid _:=N
     clear N Q
     have hR:=S.res
     have F:(Tryz.prog.info? 190).map (·.size)=some (row 8 f).size:=by rw[zU];exact zCG
     have X:(row 8 (fun _=>0)).size=(row 8 f).size:=by simp[zU]
     go_wp2_with (first|(refine wpList_load_row rfl 190 (.tmp 20) rfl w4.heap.size rfl 190 (row 8 f) (0,0) _ hf Tryz.underlying190 rfl F ?_)|(refine wpList_store_row rfl 190 (.tmp 4) (.tmp 127) rfl (w.heap.size+1) (row 8 f) rfl rfl 190 (row 8 fun _=>0) hR F X (zAO _ _) ?_))
     have e:row 8 f=row 8 (zBQ kt W st):=zBS 8 _ _ (by
      intro j hj;rw[HF.out j hj];unfold zBQ;rw[HX.out])
     refine bodyPost_ret (v:=.agg (row 8 f)) ?_ rfl ?_
     ·exact results_cell_row Tryz.results169 _ _ (w.heap.size+1) 190 (row 8 f) (0,0) _ rfl (setRow_heap wr (w.heap.size+1) _ _ 190 (0,0) hR) Tryz.underlying190 rfl F
     ·rw[e,←HW.out]
      exact⟨rfl,zT S.below _ (by omega) _⟩
theorem zNu (kt:Nat→Int)(st:Nat→Int)(s:ByteArray)(w:World)(j:s.size=64)(A:Tab w 3 kt)(u:4≤w.heap.size):
 Calls Tryz.prog 169 #[.agg (row 8 st),.string s] w fun e w'=>e=.returned (.agg (row 8 (zBQ kt (wrd (zBk s)) st)))∧Below w.heap.size w w':=by
 rw[←zON];exact zMF kt st s w j A u
theorem zMG (kt:Nat→Int)(st:Nat→Int)(s:ByteArray)(w:World)(j:s.size=64)(A:Tab w 3 kt)(u:4≤w.heap.size):
 Calls Tryz.prog 169 #[.agg #[.int .u32 (st 0),.int .u32 (st 1),.int .u32 (st 2),.int .u32 (st 3),.int .u32 (st 4),.int .u32 (st 5),.int .u32 (st 6),.int .u32 (st 7)],.string s] w fun e w'=>∃y,Hid (y=zBQ kt (wrd (zBk s)) st)∧
  e=.returned (.agg #[.int .u32 (y 0),.int .u32 (y 1),.int .u32 (y 2),.int .u32 (y 3),.int .u32 (y 4),.int .u32 (y 5),.int .u32 (y 6),.int .u32 (y 7)])∧Below w.heap.size w w':=
 (zNu kt st s w j A u).mono fun _ _ h=>⟨_,rfl,h.1,h.2⟩
set_option maxHeartbeats 1000000 in
set_option maxRecDepth 100000 in
theorem zGb (kt:Nat→Int)(st:Nat→Int)(s:ByteArray)(n:Nat)(w:World)(h0:s.size=64*n)(hn:n≤2199023255552)(hT:Tab w 3 kt)(h3:4≤w.heap.size):
 Calls Tryz.prog 135 #[.agg (row 8 st),.string s] w fun e w'=>e=.returned (.agg (row 8 (pcs kt s st n)))∧Below w.heap.size w w':=by
 have HT:Hid _:=hT
 clear hT
 have U:Hid _:=h0
 have aH:s.size≤140737488355328:=by omega
 clear h0
 go_enter Tryz.func135,Tryz.ntmps135
 go_wp2
 go_loopw [5] (fun i wr=>∃k:Nat,k≤n∧i=.int .i64 ((64*k:Nat):Int)∧Below w.heap.size w wr∧Words wr (w.heap.size+1) 8 190 (fun _=>0)∧Words wr w.heap.size 8 190 (pcs kt s st k)) (fun i _=>s.size-(intOf i).toNat)
 case atStart=>exact⟨0,by omega,rfl,((Below.refl _ _).alloc (Nat.le_refl _) _).alloc (by simp) _,heap_alloc2_new _ _ _,heap_alloc2_old _ _ _⟩
 case round=>
  obtain⟨k,hk,rfl,hb,R,Q⟩:=hrel
  by_cases aD:k<n
  ·obtain⟨j,G⟩:∃m:Nat,m=64*k:=⟨_,rfl⟩
   have aC:j+64≤s.size:=by have:=U.out;omega
   rw[←G]
   have u:Hid (j=64*k):=G
   clear G
   obtain⟨x,N⟩:∃x,pcs kt s st k=x:=⟨_,rfl⟩
   have X:Hid (pcs kt s st k=x):=N
   rw[N]at Q
   clear N
   obtain⟨c0,c1,c2,c3,c4,c5,c6,c7,cf⟩:=Q.cells8
   have aB:w.heap.size+2≤wr.heap.size:=by have:=R.lt;omega
   obtain⟨q,HQ,hq,aG⟩:∃q,Hid (q=zBB s k)∧q.size=64∧∀W,(Instr.slice 9 (.string s) (some (.int .i64 (j:Int))) (some (.int .i64 ((j:Int)+64))) none).run Tryz.prog W=.ok (.string q) W:=by
    refine⟨zBB s k,rfl,zCx s k (by have:=u.out;omega),fun W=> ?_⟩
    rw[run_slice_string W 9 s .i64 .i64 _ _ Tryz.underlying9 (by omega) (by omega) (by omega)]
    have e1:((j:Int)).toNat=64*k:=by have:=u.out;omega
    have e2:((j:Int)+64).toNat=64*k+64:=by have:=u.out;omega
    rw[e1,e2];rfl
   have aI:IntKind.i64.wrap ((j:Int)+64)=(j:Int)+64:=by rw[IntKind.wrap_i64];omega
   go_wp2
   have a1:Tab wr.drew 3 kt:=Tab.below HT.out hb.drew (by omega)
   have Z:4≤wr.drew.heap.size:=by show 4≤wr.heap.size;omega
   have D:w.heap.size<wr.drew.heap.size:=by show w.heap.size<wr.heap.size;omega
   go_region_with (go_at_call 169;refine (zMG kt x q wr.drew hq a1 Z).mono ?_;rintro e w' ⟨y,hy,rfl,F⟩;obtain⟨d0,d1,d2,d3,d4,d5,d6,d7,df⟩:=(Q.drew.below F D).cells8)
   go_wp2
   go_roundw
   case rel=>
    refine⟨k+1,by omega,by have:=u.out;go_num,zAv (hb.drew.trans (F.mono (Nat.le_of_lt D))),zGk ((R.drew).below F (by show w.heap.size+1<wr.heap.size;omega)) (by simp),?_⟩
    have e:pcs kt s st (k+1)=y:=by
     show zBQ kt (wrd (zBk (zBB s k))) (pcs kt s st k)=y
     rw[hy.out,X.out,HQ.out]
    rw[e]
    exact zOT (Q.drew.below F D)
   case measure=>have:=u.out;have:=U.out;simp[intOf];omega
  ·have a2:k=n:=by omega
   subst a2
   obtain⟨x,N⟩:∃x,pcs kt s st k=x:=⟨_,rfl⟩
   have X:Hid (pcs kt s st k=x):=N
   rw[N]at Q
   clear N
   obtain⟨m,hm⟩:∃m:Nat,m=64*k:=⟨_,rfl⟩
   rw[←hm]
   have aE:s.size≤m:=by have:=U.out;omega
   clear hm
   have A:(Tryz.prog.info? 190).map (·.size)=some (row 8 x).size:=by rw[zU];exact zCG
   have J:(row 8 (fun _=>0)).size=(row 8 x).size:=by simp[zU]
   go_wp2_with (first|(refine wpList_load_row rfl 190 (.tmp 2) rfl w.heap.size rfl 190 (row 8 x) (0,0) _ Q Tryz.underlying190 rfl A ?_)|(refine wpList_store_row rfl 190 (.tmp 4) (.tmp 19) rfl (w.heap.size+1) (row 8 x) rfl rfl 190 (row 8 fun _=>0) R A J (zAO _ _) ?_))
   refine bodyPost_ret (v:=.agg (row 8 x)) ?_ rfl ?_
   ·exact results_cell_row Tryz.results135 _ _ (w.heap.size+1) 190 (row 8 x) (0,0) _ rfl (setRow_heap wr (w.heap.size+1) _ _ 190 (0,0) R) Tryz.underlying190 rfl A
   ·rw[X.out]
    exact⟨rfl,zT hb _ (by omega) _⟩
theorem zNs (w:World):(Instr.makeSlice 173 (.int .i64 64) (.int .i64 64)).run Tryz.prog w=.ok (.slice (some ⟨w.heap.size,0,none⟩) 64 64) (w.alloc (.cells (Array.replicate 64 (.int .u8 0)) 5)):=by kernel_rfl
theorem zMD (w:World):(Instr.makeSlice 173 (.int .i64 128) (.int .i64 128)).run Tryz.prog w=.ok (.slice (some ⟨w.heap.size,0,none⟩) 128 128) (w.alloc (.cells (Array.replicate 128 (.int .u8 0)) 5)):=by kernel_rfl
theorem zKY (n:Nat):Array.replicate n (Value.int .u8 0)=zBp n (fun _=>0):=by
 apply Array.ext
 ·simp[zBp]
 ·intro i j u;simp[zBp]
def zDT (s:ByteArray)(n sz k j:Nat):Int:=
 if sz-k≤j then (n:Int)*8/2 ^ (8*(sz-1-j))%256 else if j<s.size then byt s j else if j=s.size then 128 else 0
theorem zNy (s:ByteArray)(n sz j:Nat)(D:j<sz):upd (zJt s fun _=>0) s.size 128 j=zDT s n sz 0 j:=by
 unfold upd zJt zDT
 rw[if_neg (show ¬sz-0≤j by omega)]
 by_cases u:j=s.size
 ·rw[if_pos u,if_neg (by omega),if_pos u]
 ·rw[if_neg u]
  by_cases A:j<s.size
  ·rw[if_pos A,if_pos A]
  ·rw[if_neg A,if_neg A,if_neg u]
theorem zFv (s:ByteArray)(n sz k j:Nat)(hk:k<sz)(D:j<sz):upd (zDT s n sz k) (sz-1-k) ((n:Int)*8/2 ^ (8*k)%256) j=zDT s n sz (k+1) j:=by
 unfold upd
 by_cases u:j=sz-1-k
 ·rw[if_pos u]
  unfold zDT
  rw[if_pos (by omega),show sz-1-j=k by omega]
 ·rw[if_neg u]
  unfold zDT
  by_cases A:sz-k≤j
  ·rw[if_pos A,if_pos (by omega)]
  ·rw[if_neg A,if_neg (show ¬sz-(k+1)≤j by omega)]
set_option maxHeartbeats 1000000 in
set_option maxRecDepth 100000 in
theorem zIF (s:ByteArray)(n:Nat)(w:World)(h0:s.size<56)(hn:n≤140737488355328):
 Calls Tryz.prog 136 #[.string s,.int .i64 n] w fun e w'=>e=.returned (.string (txt 64 (zDT s n 64 8)))∧Below w.heap.size w w':=by
 have a1:=zNs
 have N:Byts (w.alloc (.cells (Array.replicate 64 (.int .u8 0)) 5)) w.heap.size 64 (fun _=>0):=by unfold Byts;rw[←zKY];exact heap_alloc_new _ _
 go_enter Tryz.func136,Tryz.ntmps136
 go_wp2_with (refine zAh rfl (.tmp 16) (.tmp 17) rfl w.heap.size 64 64 (fun _=>0) N s (by omega) rfl rfl ?_;intro J F;(have u:Byts J w.heap.size 64 (zJt s fun _=>0):=by rw[F.out];exact zB6 _ N);have Q:=u.cell s.size (by omega);have R:=u.free s.size)
 have A:Below w.heap.size w J:=by rw[F.out];exact zT ((Below.refl _ _).alloc (Nat.le_refl _) _) _ (Nat.le_refl _) _
 have D:Byts (J.setCell ⟨w.heap.size,s.size,none⟩ (.int .u8 128)) w.heap.size 64 (zDT s n 64 0):=(u.put s.size 128).to (fun j U=>zNy s n 64 j U)
 have G:Below w.heap.size w (J.setCell ⟨w.heap.size,s.size,none⟩ (.int .u8 128)):=A.setCell (Nat.le_refl _) _
 go_loopw [26] (fun i wr=>∃k:Nat,k≤8∧i=.int .i64 k∧Below w.heap.size w wr∧Byts wr w.heap.size 64 (zDT s n 64 k)) (fun i _=>8-(intOf i).toNat)
 case atStart=>exact⟨0,by omega,rfl,G,D⟩
 case round=>
  clear F u Q R A D G N
  obtain⟨k,hk,rfl,hb,D⟩:=hrel
  by_cases Z:k<8
  ·have c1:=D.cell (64-1-k) (by omega)
   have c2:=D.free (64-1-k)
   go_wp2
   go_roundw
   case rel=>exact⟨k+1,by omega,by go_num,hb.setCell (Nat.le_refl _) _,(D.put (64-1-k) _).to (fun j U=>zFv s n 64 k j (by omega) U)⟩
   case measure=>simp[intOf];omega
  ·have W:k=8:=by omega
   subst W
   have X:=zBh D 64
   go_wp2
   go_ret
   exact⟨rfl,hb⟩
set_option maxHeartbeats 1000000 in
set_option maxRecDepth 100000 in
theorem zIE (s:ByteArray)(n:Nat)(w:World)(h0:56≤s.size)(h1:s.size<64)(hn:n≤140737488355328):
 Calls Tryz.prog 136 #[.string s,.int .i64 n] w fun e w'=>e=.returned (.string (txt 128 (zDT s n 128 8)))∧Below w.heap.size w w':=by
 have a1:=zMD
 have N:Byts (w.alloc (.cells (Array.replicate 128 (.int .u8 0)) 5)) w.heap.size 128 (fun _=>0):=by unfold Byts;rw[←zKY];exact heap_alloc_new _ _
 go_enter Tryz.func136,Tryz.ntmps136
 go_wp2_with (refine zAh rfl (.tmp 16) (.tmp 17) rfl w.heap.size 128 128 (fun _=>0) N s (by omega) rfl rfl ?_;intro J F;(have u:Byts J w.heap.size 128 (zJt s fun _=>0):=by rw[F.out];exact zB6 _ N);have Q:=u.cell s.size (by omega);have R:=u.free s.size)
 have A:Below w.heap.size w J:=by rw[F.out];exact zT ((Below.refl _ _).alloc (Nat.le_refl _) _) _ (Nat.le_refl _) _
 have D:Byts (J.setCell ⟨w.heap.size,s.size,none⟩ (.int .u8 128)) w.heap.size 128 (zDT s n 128 0):=(u.put s.size 128).to (fun j U=>zNy s n 128 j U)
 have G:Below w.heap.size w (J.setCell ⟨w.heap.size,s.size,none⟩ (.int .u8 128)):=A.setCell (Nat.le_refl _) _
 go_loopw [26] (fun i wr=>∃k:Nat,k≤8∧i=.int .i64 k∧Below w.heap.size w wr∧Byts wr w.heap.size 128 (zDT s n 128 k)) (fun i _=>8-(intOf i).toNat)
 case atStart=>exact⟨0,by omega,rfl,G,D⟩
 case round=>
  clear F u Q R A D G N
  obtain⟨k,hk,rfl,hb,D⟩:=hrel
  by_cases Z:k<8
  ·have c1:=D.cell (128-1-k) (by omega)
   have c2:=D.free (128-1-k)
   go_wp2
   go_roundw
   case rel=>exact⟨k+1,by omega,by go_num,hb.setCell (Nat.le_refl _) _,(D.put (128-1-k) _).to (fun j U=>zFv s n 128 k j (by omega) U)⟩
   case measure=>simp[intOf];omega
  ·have W:k=8:=by omega
   subst W
   have X:=zBh D 128
   go_wp2
   go_ret
   exact⟨rfl,hb⟩
def zEp:Nat→Int
 |0=>1779033703
 |1=>3144134277
 |2=>1013904242
 |3=>2773480762
 |4=>1359893119
 |5=>2600822924
 |6=>528734635
 |_=>1541459225
theorem zCu (kt:Nat→Int)(st:Nat→Int)(s:ByteArray)(n:Nat)(w:World)(j:s.size=64*n)(D:n≤2199023255552)(A:Tab w 3 kt)(u:4≤w.heap.size):
 Calls Tryz.prog 135 #[.agg #[.int .u32 (st 0),.int .u32 (st 1),.int .u32 (st 2),.int .u32 (st 3),.int .u32 (st 4),.int .u32 (st 5),.int .u32 (st 6),.int .u32 (st 7)],.string s] w fun e w'=>∃y,Hid (y=pcs kt s st n)∧
  e=.returned (.agg #[.int .u32 (y 0),.int .u32 (y 1),.int .u32 (y 2),.int .u32 (y 3),.int .u32 (y 4),.int .u32 (y 5),.int .u32 (y 6),.int .u32 (y 7)])∧Below w.heap.size w w':=
 (zGb kt st s n w j D A u).mono fun _ _ h=>⟨_,rfl,h.1,h.2⟩
def zI8 (s:ByteArray)(n:Nat):ByteArray:=if s.size<56 then txt 64 (zDT s n 64 8) else txt 128 (zDT s n 128 8)
def zCk (s:ByteArray):Nat:=if s.size<56 then 1 else 2
theorem zGD (n:Nat)(f:Nat→Int):(txt n f).size=n:=by simp[txt,strOfNums_size]
theorem zEI (s:ByteArray)(n:Nat):(zI8 s n).size=64*zCk s:=by
 unfold zI8 zCk
 by_cases h:s.size<56
 ·rw[if_pos h,if_pos h,zGD]
 ·rw[if_neg h,if_neg h,zGD]
theorem zMU (s:ByteArray):zCk s≤2:=by
 unfold zCk;split<;>omega
theorem zID (s:ByteArray)(n:Nat)(w:World)(u:s.size<64)(j:n≤140737488355328):
 Calls Tryz.prog 136 #[.string s,.int .i64 n] w fun e w'=>e=.returned (.string (zI8 s n))∧Below w.heap.size w w':=by
 unfold zI8
 by_cases h:s.size<56
 ·rw[if_pos h];exact zIF s n w h j
 ·rw[if_neg h];exact zIE s n w (by omega) u j
def ofT (kt:Nat→Int)(s:ByteArray):ByteArray:=
 strOfNums (tl (pcs kt (zI8 (s.extract (64*(s.size/64)) s.size) s.size) (pcs kt (s.extract 0 (64*(s.size/64))) zEp (s.size/64)) (zCk (s.extract (64*(s.size/64)) s.size))) 8)
set_option maxHeartbeats 1000000 in
set_option maxRecDepth 100000 in
theorem zCP (kt:Nat→Int)(s:ByteArray)(w:World)(hs:s.size≤140737488351232)(hT:Tab w 3 kt)(h3:4≤w.heap.size):
 Calls Tryz.prog 98 #[.string s] w fun e w'=>e=.returned (.string (ofT kt s))∧Below w.heap.size w w':=by
 have HT:Hid _:=hT
 clear hT
 obtain⟨n,hn⟩:∃n,n=s.size/64:=⟨_,rfl⟩
 obtain⟨A,aG⟩:∃A,A=64*n:=⟨_,rfl⟩
 have aF:((s.size:Int)-(s.size:Int)%64)=(A:Int):=by omega
 have b6:A≤s.size:=by omega
 have b7:s.size-A<64:=by omega
 obtain⟨q1,aK,aD,aE⟩:∃q,Hid (q=s.extract 0 A)∧q.size=64*n∧∀W,(Instr.slice 9 (.string s) none (some (.int .i64 (A:Int))) none).run Tryz.prog W=.ok (.string q) W:=by
  refine⟨s.extract 0 A,rfl,by rw[ByteArray.size_extract];omega,fun W=> ?_⟩
  rw[run_slice_string_to_if W 9 s .i64 _ Tryz.underlying9,if_pos ⟨by omega,by omega⟩,Int.toNat_natCast]
 obtain⟨q2,aL,aW,b0⟩:∃q,Hid (q=s.extract A s.size)∧q.size<64∧∀W,(Instr.slice 9 (.string s) (some (.int .i64 (A:Int))) none none).run Tryz.prog W=.ok (.string q) W:=by
  refine⟨s.extract A s.size,rfl,by rw[ByteArray.size_extract];omega,fun W=> ?_⟩
  rw[run_slice_string_from_if W 9 s .i64 _ Tryz.underlying9,if_pos ⟨by omega,by omega⟩,Int.toNat_natCast]
 have aU:n≤2199023255552:=by omega
 have aN:Hid (A=64*(s.size/64)):=by rw[aG,hn];rfl
 have HN:Hid (n=s.size/64):=hn
 have a8:Hid (q1.size=64*n):=aD
 have aM:Hid (((s.size:Int)-(s.size:Int)%64)=(A:Int)):=aF
 clear hn aG aD aF
 go_enter Tryz.func98,Tryz.ntmps98
 go_wp2
 rw[aM.out]
 obtain⟨N,X⟩:∃N,N=w.alloc (Obj.cells #[Value.int IntKind.u32 1779033703,Value.int IntKind.u32 3144134277,Value.int IntKind.u32 1013904242,Value.int IntKind.u32 2773480762,Value.int IntKind.u32 1359893119,Value.int IntKind.u32 2600822924,Value.int IntKind.u32 528734635,Value.int IntKind.u32 1541459225] 190):=⟨_,rfl⟩
 rw[←X]
 have u:Words N w.heap.size 8 190 zEp:=by rw[X];exact heap_alloc_new _ _
 have a6:Below w.heap.size w N:=by rw[X];exact (Below.refl _ _).alloc (Nat.le_refl _) _
 clear X
 obtain⟨x,hx⟩:∃x,x=zEp:=⟨_,rfl⟩
 have HX:Hid (x=zEp):=hx
 rw[←hx]at u
 clear hx
 have a2:w.heap.size<N.heap.size:=u.lt
 have R:Tab N.drew 3 kt:=Tab.below HT.out a6.drew (by omega)
 have Q:4≤N.drew.heap.size:=by show 4≤N.heap.size;omega
 have j:w.heap.size<N.drew.heap.size:=a2
 obtain⟨c0,c1,c2,c3,c4,c5,c6,c7,cf⟩:=u.cells8
 go_region_with (go_at_call 135;refine (zCu kt x q1 n N.drew a8.out aU R Q).mono ?_;rintro e w' ⟨y,hy,rfl,U⟩;obtain⟨d0,d1,d2,d3,d4,d5,d6,d7,df⟩:=(u.drew.below U j).cells8)
 go_wp2
 obtain⟨w2,Z⟩:∃w2,w2=(((((((w'.setCell ⟨w.heap.size,0,none⟩ (Value.int IntKind.u32 (y 0))).setCell ⟨w.heap.size,1,none⟩ (Value.int IntKind.u32 (y 1))).setCell ⟨w.heap.size,2,none⟩ (Value.int IntKind.u32 (y 2))).setCell ⟨w.heap.size,3,none⟩ (Value.int IntKind.u32 (y 3))).setCell ⟨w.heap.size,4,none⟩ (Value.int IntKind.u32 (y 4))).setCell ⟨w.heap.size,5,none⟩ (Value.int IntKind.u32 (y 5))).setCell ⟨w.heap.size,6,none⟩ (Value.int IntKind.u32 (y 6))).setCell ⟨w.heap.size,7,none⟩ (Value.int IntKind.u32 (y 7)):=⟨_,rfl⟩
 rw[←Z]
 have a4:Words w2 w.heap.size 8 190 y:=by rw[Z];exact zOT (u.drew.below U j)
 have aA:Below w.heap.size w w2:=by rw[Z];exact zAv (a6.drew.trans (U.mono (Nat.le_of_lt j)))
 clear Z d0 d1 d2 d3 d4 d5 d6 d7 df U c0 c1 c2 c3 c4 c5 c6 c7 cf u a6 R Q j a2 aE
 have F:w.heap.size<w2.drew.heap.size:=a4.lt
 have R:Tab w2.drew 3 kt:=Tab.below HT.out aA.drew (by omega)
 have Q:4≤w2.drew.heap.size:=by omega
 have aV:s.size≤140737488355328:=by omega
 have b5:=zMU q2
 have aC:zCk q2≤2199023255552:=by omega
 have aI:Hid _:=zEI q2 s.size
 obtain⟨p,hp⟩:∃p,zI8 q2 s.size=p:=⟨_,rfl⟩
 have HP:Hid (zI8 q2 s.size=p):=hp
 have J:=fun W=>zID q2 s.size W aW aV
 simp only[hp]at J
 have aH:Hid _:=J
 have aJ:Hid (p.size=64*zCk q2):=by rw[←hp];exact zEI q2 s.size
 clear hp J aI
 obtain⟨c0,c1,c2,c3,c4,c5,c6,c7,cf⟩:=a4.cells8
 go_region_with (first|(go_at_call 136;refine (aH.out _).mono ?_;rintro e w5 ⟨rfl,D⟩;have a5:=a4.drew.below D F;have aR:=Tab.below R D (by omega);have aP:=Nat.le_trans Q D.size;have G:=Nat.lt_of_lt_of_le F D.size;obtain⟨e0,e1,e2,e3,e4,e5,e6,e7,ef⟩:=a5.cells8)|(go_at_call 135;refine (zCu kt y p (zCk q2) w5 aJ.out aC aR aP).mono ?_;rintro e w6 ⟨z,hz,rfl,hb6⟩;obtain⟨f0,f1,f2,f3,f4,f5,f6,f7,ff⟩:=(a5.below hb6 G).cells8))
 all_goals
  have a9:=zOT (y:=z) (a5.below hb6 G)
  have aQ:=zAv (y:=z) ((aA.drew.trans (D.mono (Nat.le_of_lt F))).trans (hb6.mono (Nat.le_of_lt G)))
  have aB:(Tryz.prog.info? 190).map (·.size)=some (row 8 z).size:=by rw[zU];exact zCG
  clear e0 e1 e2 e3 e4 e5 e6 e7 ef f0 f1 f2 f3 f4 f5 f6 f7 ff c0 c1 c2 c3 c4 c5 c6 c7 cf
  go_wp2_with (first|(refine wpList_load_row rfl 190 (.tmp 3) rfl w.heap.size rfl 190 (row 8 z) (0,0) _ a9 Tryz.underlying190 rfl aB ?_)|(go_at_call 137;refine (zKG z _).mono ?_;rintro e w7 ⟨rfl,aS⟩))
  go_ret
  refine⟨?_,aQ.trans (aS.mono (by have:=a9.lt;omega))⟩
  unfold ofT
  rw[←aN.out,←HN.out,←aK.out,←aL.out,HP.out,←HX.out,←hy.out,←hz.out]
  rfl
end Go.Proofs.YtlopecgkiikdhaaGreatDoor
