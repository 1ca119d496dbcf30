import Derived.Test.YtlopecgkiikdhaaGreatDoorX01
import Derived.Test.YtlopecgkiikdhaaGreatDoorProg
import Derived.WalkKit
import Derived.WalkSpells
import Derived.WalkLawsBesides
import Derived.Deep.OwnRows
import Derived.BigQuiet
import Derived.Deep.RegionWith
import Derived.Deep.RegionHeld3
namespace Go.Proofs.YtlopecgkiikdhaaGreatDoor
def xt (a:Nat):Nat:=(2*a%256) ^^^ (if 128≤a then 29 else 0)
def gmS:Nat→Nat→Nat→Nat→Nat
 |0,_,_,p=>p
 |n+1,a,b,p=>gmS n (xt a) (b/2) (if b%2=1 then p ^^^ a else p)
def gm (a b:Nat):Nat:=gmS 8 a b 0
def zGK (n:Nat)(f:Nat→Bool):Bool:=Nat.rec true (fun k r=>f k&&r) n
theorem zu (f:Nat→Bool):∀n,zGK n f=true→∀k,k<n→f k=true
 |0,_,k,h=>by omega
 |n+1,h,k,hk=>by
  have j:(f n&&zGK n f)=true:=h
  rw[Bool.and_eq_true]at j
  by_cases e:k=n
  ·rw[e];exact j.1
  ·exact zu f n j.2 k (by omega)
set_option maxRecDepth 100000
theorem zDk:∀a,a<256→xt a<256:=by
 intro a h
 unfold xt
 refine Nat.xor_lt_two_pow (n:=8) (by omega) ?_
 split<;>decide
theorem zMz:zGK 256 (fun a=>zGK 256 fun b=>xt (a ^^^ b) == (xt a ^^^ xt b))=true:=by decide+kernel
theorem zOQ (a b:Nat)(j:a<256)(hb:b<256):xt (a ^^^ b)=xt a ^^^ xt b:=by
 have:=zu _ 256 (zu _ 256 zMz a j) b hb
 simpa using this
theorem zKg:∀n a b p,a<256→p<256→gmS n a b p<256
 |0,_,_,_,_,hp=>hp
 |n+1,a,b,p,ha,hp=>by
  rw[gmS]
  refine zKg n _ _ _ (zDk a ha) ?_
  split
  ·exact Nat.xor_lt_two_pow (n:=8) hp ha
  ·exact hp
theorem zA0 (a b:Nat)(j:a<256):gm a b<256:=zKg 8 a b 0 j (by omega)
theorem zHU:∀n j u b D A,j<256→u<256→gmS n (j ^^^ u) b (D ^^^ A)=gmS n j b D ^^^ gmS n u b A
 |0,_,_,_,_,_,_,_=>rfl
 |n+1,j,u,b,D,A,h1,h2=>by
  rw[gmS,gmS,gmS,zOQ j u h1 h2]
  have e:(if b%2=1 then D ^^^ A ^^^ (j ^^^ u) else D ^^^ A)=(if b%2=1 then D ^^^ j else D) ^^^ (if b%2=1 then A ^^^ u else A):=by
   by_cases hb:b%2=1
   ·rw[if_pos hb,if_pos hb,if_pos hb]
    rw[Nat.xor_assoc,Nat.xor_assoc,←Nat.xor_assoc A j u,Nat.xor_comm A j,Nat.xor_assoc j A u]
   ·rw[if_neg hb,if_neg hb,if_neg hb]
  rw[e]
  exact zHU n _ _ _ _ _ (zDk j h1) (zDk u h2)
theorem zNN (j u b:Nat)(A:j<256)(D:u<256):gm (j ^^^ u) b=gm j b ^^^ gm u b:=zHU 8 j u b 0 0 A D
theorem zNO:zGK 256 (fun a=>zGK 256 fun b=>gm a (xt b) == xt (gm a b))=true:=by decide+kernel
theorem zOu (a b:Nat)(j:a<256)(hb:b<256):gm a (xt b)=xt (gm a b):=by
 have:=zu _ 256 (zu _ 256 zNO a j) b hb
 simpa using this
theorem zLh:zGK 256 (fun a=>gm a 1 == a&&gm 1 a == a&&gm a 0 == 0&&gm 0 a == 0)=true:=by decide+kernel
theorem zj (a:Nat)(j:a<256):gm a 1=a∧gm 1 a=a∧gm a 0=0∧gm 0 a=0:=by
 have:=zu _ 256 zLh a j
 simp only[Bool.and_eq_true,beq_iff_eq]at this
 exact⟨this.1.1.1,this.1.1.2,this.1.2,this.2⟩
def pw:Nat→Nat
 |0=>1
 |n+1=>xt (pw n)
theorem zMW:∀n,pw n<256
 |0=>by decide
 |n+1=>zDk _ (zMW n)
theorem zNM (a n:Nat)(j:a<256):∀m,a=pw n→gm a (pw m)=pw (n+m)
 |0,h=>by rw[pw,(zj a j).1,h,Nat.add_zero]
 |m+1,h=>by rw[pw,zOu a (pw m) j (zMW m),zNM a n j m h];rfl
theorem zCq (n m:Nat):gm (pw n) (pw m)=pw (n+m):=zNM (pw n) n (zMW n) m rfl
def pws:Nat→Nat→List Nat
 |0,_=>[]
 |n+1,a=>a::pws n (xt a)
theorem zII:∀n k a,a∈pws n (pw k)→∃i,a=pw i
 |0,_,_,h=>by simp[pws]at h
 |n+1,k,a,h=>by
  rcases List.mem_cons.1 h with rfl|h
  ·exact⟨k,rfl⟩
  ·exact zII n (k+1) a h
theorem zP0:zGK 256 (fun a=>a == 0||(pws 255 1).contains a)=true:=by decide+kernel
theorem zNh (a:Nat)(u:a<256)(j:a≠0):∃i,a=pw i:=by
 have:=zu _ 256 zP0 a u
 simp only[Bool.or_eq_true,beq_iff_eq,j,false_or]at this
 have A:a∈pws 255 1:=by simpa using this
 exact zII 255 0 a A
theorem zLg (a b:Nat)(u:a<256)(hb:b<256):gm a b=gm b a:=by
 by_cases A:a=0
 ·rw[A,(zj b hb).2.2.2,(zj b hb).2.2.1]
 by_cases D:b=0
 ·rw[D,(zj a u).2.2.2,(zj a u).2.2.1]
 obtain⟨i,rfl⟩:=zNh a u A
 obtain⟨j,rfl⟩:=zNh b hb D
 rw[zCq,zCq,Nat.add_comm]
theorem zJa (a b c:Nat)(u:a<256)(hb:b<256)(A:c<256):gm (gm a b) c=gm a (gm b c):=by
 by_cases D:a=0
 ·rw[D,(zj b hb).2.2.2,(zj c A).2.2.2,(zj _ (zA0 b c hb)).2.2.2]
 by_cases F:b=0
 ·rw[F,(zj a u).2.2.1,(zj c A).2.2.2,(zj a u).2.2.1]
 by_cases G:c=0
 ·rw[G,(zj _ (zA0 a b u)).2.2.1,(zj b hb).2.2.1,(zj a u).2.2.1]
 obtain⟨i,rfl⟩:=zNh a u D
 obtain⟨j,rfl⟩:=zNh b hb F
 obtain⟨k,rfl⟩:=zNh c A G
 rw[zCq,zCq,zCq,zCq,Nat.add_assoc]
def giS:Nat→Nat→Nat→Nat
 |0,_,r=>r
 |n+1,p,r=>giS n (gm p p) (gm r (gm p p))
def gi (a:Nat):Nat:=giS 7 a 1
theorem zPh:zGK 256 (fun a=>decide (gi a<256)&&(a == 0||gm a (gi a) == 1))=true:=by decide+kernel
theorem zJZ (a:Nat)(j:a<256):gi a<256:=by
 have:=zu _ 256 zPh a j
 simp only[Bool.and_eq_true,decide_eq_true_eq]at this
 exact this.1
theorem zOt (a:Nat)(u:a<256)(j:a≠0):gm a (gi a)=1:=by
 have:=zu _ 256 zPh a u
 simp only[Bool.and_eq_true,Bool.or_eq_true,beq_iff_eq,j,false_or]at this
 exact this.2
def N8:Type:={ n:Nat//n<256 }
def GF:Fld N8 where
 add a b:=⟨a.1 ^^^ b.1,Nat.xor_lt_two_pow (n:=8) a.2 b.2⟩
 mul a b:=⟨gm a.1 b.1,zA0 a.1 b.1 a.2⟩
 zero:=⟨0,by omega⟩
 one:=⟨1,by omega⟩
 inv a:=⟨gi a.1,zJZ a.1 a.2⟩
 add_comm a b:=Subtype.ext (Nat.xor_comm a.1 b.1)
 add_assoc a b c:=Subtype.ext (Nat.xor_assoc a.1 b.1 c.1)
 zero_add a:=Subtype.ext (Nat.zero_xor a.1)
 add_self a:=Subtype.ext (Nat.xor_self a.1)
 mul_comm a b:=Subtype.ext (zLg a.1 b.1 a.2 b.2)
 mul_assoc a b c:=Subtype.ext (zJa a.1 b.1 c.1 a.2 b.2 c.2)
 one_mul a:=Subtype.ext (zj a.1 a.2).2.1
 add_mul a b c:=Subtype.ext (zNN a.1 b.1 c.1 a.2 b.2)
 mul_inv a h:=Subtype.ext (zOt a.1 a.2 (fun e=>h (Subtype.ext e)))
 one_ne h:=by have:=congrArg Subtype.val h;exact absurd this (by decide)
end Go.Proofs.YtlopecgkiikdhaaGreatDoor
namespace Go.Proofs.YtlopecgkiikdhaaGreatDoor
open Go.RowKit
set_option maxRecDepth 100000
theorem zOH:zGK 256 (fun A=>bits BinOp.xor IntKind.u8 ((A:Int)*2%256) (bits BinOp.and IntKind.u8 29 (-((A:Int)/128)%256)) == ((xt A:Nat):Int))=true:=by decide+kernel
theorem zPS (A:Nat)(h:A<256):bits BinOp.xor IntKind.u8 ((A:Int)*2%256) (bits BinOp.and IntKind.u8 29 (-((A:Int)/128)%256))=((xt A:Nat):Int):=by
 have:=zu _ 256 zOH A h
 simpa using this
theorem zO4:zGK 256 (fun A=>bits BinOp.and IntKind.u8 (A:Int) 1 == ((A%2:Nat):Int)&&bits BinOp.and IntKind.u8 (A:Int) 255 == (A:Int)&&bits BinOp.and IntKind.u8 (A:Int) 0 == 0)=true:=by decide+kernel
theorem zME (A:Nat)(h:A<256):bits BinOp.and IntKind.u8 (A:Int) 1=((A%2:Nat):Int)∧bits BinOp.and IntKind.u8 (A:Int) 255=(A:Int)∧bits BinOp.and IntKind.u8 (A:Int) 0=0:=by
 have:=zu _ 256 zO4 A h
 simp only[Bool.and_eq_true,beq_iff_eq]at this
 exact⟨this.1.1,this.1.2,this.2⟩
theorem zPT (P A B:Nat)(u:P<256)(j:A<256)(F:B<256):bits BinOp.xor IntKind.u8 (P:Int) (bits BinOp.and IntKind.u8 (A:Int) (-bits BinOp.and IntKind.u8 (B:Int) 1%256))=((if B%2=1 then P ^^^ A else P:Nat):Int):=by
 rw[(zME B F).1]
 by_cases h:B%2=1
 ·rw[if_pos h,h,show (-((1:Nat):Int)%256)=255 by decide,(zME A j).2.1,u8_xor_nat P A u j]
 ·have D:B%2=0:=by omega
  rw[if_neg h,D,show (-((0:Nat):Int)%256)=0 by decide,(zME A j).2.2]
  have:=u8_xor_nat P 0 u (by omega)
  rw[Nat.xor_zero]at this
  exact this
set_option maxHeartbeats 400000 in
theorem zAA (a b:Nat)(w:World)(J:a<256)(hb:b<256):
 Calls Tryz.prog 273 #[.int .u8 a,.int .u8 b] w fun e w'=>e=.returned (.int .u8 ((gm a b:Nat):Int))∧w'=w:=by
 go_enter Tryz.func273,Tryz.ntmps273
 go_wp2
 go_loop [6,0,1,5] (fun i x y p=>∃k A B P:Nat,k≤8∧i=.int .i64 k∧x=.int .u8 A∧y=.int .u8 B∧p=.int .u8 P∧A<256∧B<256∧P<256∧gmS (8-k) A B P=gm a b) (fun i _ _ _=>8-(intOf i).toNat)
 case atStart=>exact⟨0,a,b,0,by omega,rfl,rfl,rfl,rfl,J,hb,by omega,rfl⟩
 case round=>
  obtain⟨k,A,B,P,hk,rfl,rfl,rfl,rfl,j,G,u,F⟩:=hrel
  have D:Hid _:=F
  clear F
  by_cases N:k<8
  ·go_wp2
   go_round
   case rel=>
    refine⟨k+1,xt A,B/2,(if B%2=1 then P ^^^ A else P),by omega,by go_num,?_,?_,?_,zDk A j,by omega,?_,?_⟩
    ·rw[zPS A j]
    ·go_num
    ·rw[zPT P A B u j G]
    ·split
     ·exact Nat.xor_lt_two_pow (n:=8) u j
     ·exact u
    ·rw[←D.out,show 8-k=(8-(k+1))+1 by omega,gmS]
   case measure=>simp[intOf];omega
  ·go_wp2
   go_ret
   have e:k=8:=by omega
   subst e
   exact⟨by rw[←D.out];rfl,rfl⟩
set_option maxHeartbeats 400000 in
theorem zJz (a b:Nat)(w:World)(j:a<256)(hb:b<256):
 Calls Tryz.prog 272 #[.int .u8 a,.int .u8 b] w fun e w'=>e=.returned (.int .u8 ((a ^^^ b:Nat):Int))∧w'=w:=by
 have e:=u8_xor_nat a b j hb
 have E:Hid _:=e
 clear e
 go_enter Tryz.func272,Tryz.ntmps272
 go_wp2
 go_ret
 rw[E.out]
 exact⟨rfl,rfl⟩
set_option maxHeartbeats 400000 in
theorem zD8 (a b:Nat)(w:World)(j:a<256)(hb:b<256):
 Calls Tryz.prog 269 #[.int .u8 a,.int .u8 b] w fun e w'=>e=.returned (.int .u8 ((a ^^^ b:Nat):Int))∧w'=w:=by
 have e:=u8_xor_nat a b j hb
 have E:Hid _:=e
 clear e
 go_enter Tryz.func269,Tryz.ntmps269
 go_wp2
 go_ret
 rw[E.out]
 exact⟨rfl,rfl⟩
theorem zDR (a:Int)(w:World):Calls Tryz.prog 270 #[.int .u8 a] w fun e w'=>e=.returned (.int .u8 1)∧w'=w:=by
 go_enter Tryz.func270,Tryz.ntmps270
 go_wp2
 go_ret
 exact⟨rfl,rfl⟩
set_option maxHeartbeats 400000 in
theorem zEs (a:Nat)(w:World)(J:a<256):
 Calls Tryz.prog 274 #[.int .u8 a] w fun e w'=>e=.returned (.int .u8 ((gi a:Nat):Int))∧w'=w:=by
 go_enter Tryz.func274,Tryz.ntmps274
 go_wp2
 go_loop [6,3,4] (fun i x y=>∃k A R:Nat,k≤7∧i=.int .i64 k∧x=.int .u8 A∧y=.int .u8 R∧A<256∧R<256∧giS (7-k) A R=gi a) (fun i _ _=>7-(intOf i).toNat)
 case atStart=>exact⟨0,a,1,by omega,rfl,rfl,rfl,J,by omega,rfl⟩
 case round=>
  obtain⟨k,A,R,hk,rfl,rfl,rfl,u,F,G⟩:=hrel
  have D:Hid _:=G
  have j:=zA0 A A u
  clear G
  by_cases N:k<7
  ·go_wp2_with fail
   refine (zAA A A _ u u).mono ?_
   rintro e w' ⟨rfl,rfl⟩
   go_wp2_with fail
   refine (zAA R (gm A A) _ F j).mono ?_
   rintro e w' ⟨rfl,rfl⟩
   go_wp2
   go_round
   case rel=>exact⟨k+1,gm A A,gm R (gm A A),by omega,by go_num,rfl,rfl,j,zA0 R _ F,by rw[←D.out,show 7-k=(7-(k+1))+1 by omega,giS]⟩
   case measure=>simp[intOf];omega
  ·go_wp2
   go_ret
   have e:k=7:=by omega
   subst e
   exact⟨by rw[←D.out];rfl,rfl⟩
set_option maxHeartbeats 400000 in
theorem zJu (a b:Nat)(w:World)(u:a<256)(hb:b<256):
 Calls Tryz.prog 271 #[.int .u8 a,.int .u8 b] w fun e w'=>e=.returned (.int .u8 ((gm a (gi b):Nat):Int))∧w'=w:=by
 have j:=zJZ b hb
 go_enter Tryz.func271,Tryz.ntmps271
 go_wp2_with fail
 refine (zEs b _ hb).mono ?_
 rintro e w' ⟨rfl,rfl⟩
 go_wp2_with fail
 refine (zAA a (gi b) _ u j).mono ?_
 rintro e w' ⟨rfl,rfl⟩
 go_wp2
 go_ret
 exact⟨rfl,rfl⟩
def zCl (n:Nat)(f:Nat→Value):Array Value:=Array.ofFn (n:=n) fun i=>f i.val
def zB2 (f:Nat→Value)(k:Nat)(v:Value):Nat→Value:=fun j=>if j=k then v else f j
theorem zAr (n:Nat)(f:Nat→Value):(zCl n f).size=n:=by simp[zCl]
theorem zy (n:Nat)(f:Nat→Value)(k:Nat)(h:k<n):(zCl n f)[k]? =some (f k):=by simp[zCl,h]
theorem zAI (n:Nat)(f:Nat→Value)(k:Nat)(h:¬k<n):(zCl n f)[k]? =none:=by simp[zCl,h]
theorem zJ4 (n:Nat)(f:Nat→Value)(k:Nat)(v:Value):(zCl n f).setIfInBounds k v=zCl n (zB2 f k v):=by
 apply Array.ext_getElem?
 intro i
 rw[Array.getElem?_setIfInBounds,zAr]
 by_cases hi:i<n
 ·rw[zy n f i hi,zy n _ i hi]
  by_cases h:k=i
  ·subst h;simp[hi,zB2]
  ·simp[h,zB2,Ne.symm h]
 ·rw[zAI n f i hi,zAI n _ i hi]
  by_cases h:k=i
  ·subst h;simp[hi]
  ·simp[h]
theorem zGq (n:Nat)(f g:Nat→Value)(h:∀j,j<n→f j=g j):zCl n f=zCl n g:=by
 apply Array.ext_getElem?
 intro i
 by_cases hi:i<n
 ·rw[zy n f i hi,zy n g i hi,h i hi]
 ·rw[zAI n f i hi,zAI n g i hi]
theorem zJn (z:Value)(n:Nat):madeCells #[z] n=zCl n (fun _=>z):=by
 apply Array.ext_getElem?
 intro i
 by_cases hi:i<n
 ·rw[zy n _ i hi];simp[madeCells,hi,Nat.mod_one]
 ·rw[zAI n _ i hi];simp[madeCells,hi]
def Rw (w:World)(g n:Nat)(t:TypeId)(f:Nat→Value):Prop:=w.heap[g]? =some (.cells (zCl n f) t (0,0))
theorem Rw.cell {w:World}{g n:Nat}{t:TypeId}{f:Nat→Value}(h:Rw w g n t f)(k:Nat)(hk:k<n):w.cell? ⟨g,k,none⟩=some (f k):=by
 rw[cell_of_row w g k _ t _ h,zy n f k hk]
theorem Rw.free {w:World}{g n:Nat}{t:TypeId}{f:Nat→Value}(h:Rw w g n t f)(k:Nat):w.frozen? ⟨g,k,none⟩=false:=frozen_of_row w g k _ t h
theorem Rw.put {w:World}{g n:Nat}{t:TypeId}{f:Nat→Value}(h:Rw w g n t f)(k:Nat)(v:Value):Rw (w.setCell ⟨g,k,none⟩ v) g n t (zB2 f k v):=by
 have:=heap_setCell_same w g k _ t v h
 rwa [zJ4]at this
theorem Rw.drew {w:World}{g n:Nat}{t:TypeId}{f:Nat→Value}(h:Rw w g n t f):Rw w.drew g n t f:=h
theorem Rw.drewN {w:World}{g n:Nat}{t:TypeId}{f:Nat→Value}(h:Rw w g n t f)(m:Nat):Rw (w.drewN m) g n t f:=h
theorem Rw.other {w:World}{g n:Nat}{t:TypeId}{f:Nat→Value}(h:Rw w g n t f)(a:Addr)(v:Value)(j:g≠a.block):Rw (w.setCell a v) g n t f:=by
 unfold Rw;rw[heap_setCell_other w a g v j];exact h
theorem Rw.lt {w:World}{g n:Nat}{t:TypeId}{f:Nat→Value}(h:Rw w g n t f):g<w.heap.size:=(Array.getElem?_eq_some_iff.1 h).1
theorem Rw.alloc {w:World}{g n:Nat}{t:TypeId}{f:Nat→Value}(h:Rw w g n t f)(o:Obj):Rw (w.alloc o) g n t f:=by
 unfold Rw;rw[Below.heap_alloc w o g h.lt];exact h
theorem Rw.below {w w':World}{g n:Nat}{t:TypeId}{f:Nat→Value}(h:Rw w g n t f){B:Nat}(hb:Below B w w')(j:g<B):Rw w' g n t f:=by
 unfold Rw;rw[hb.block g j];exact h
theorem Rw.to {w:World}{g n:Nat}{t:TypeId}{f h:Nat→Value}(b:Rw w g n t f)(e:∀j,j<n→f j=h j):Rw w g n t h:=by
 unfold Rw;rw[←zGq n f h e];exact b
theorem Rw.made (w:World)(n:Nat)(t:TypeId)(z:Value):Rw (w.alloc (.cells (madeCells #[z] n) t)) w.heap.size n t (fun _=>z):=by
 unfold Rw;rw[←zJn];exact heap_alloc_new _ _
def zL (k:Nat)(v:Nat→Value)(z:Value):Nat→Value:=fun j=>if j<k then v j else z
theorem zo (v:Nat→Value)(z:Value)(j:Nat):zL 0 v z j=z:=by simp[zL]
theorem zN (k:Nat)(v:Nat→Value)(z:Value)(j:Nat):zB2 (zL k v z) k (v k) j=zL (k+1) v z j:=by
 unfold zB2 zL
 by_cases h:j=k
 ·rw[if_pos h,if_pos (by omega),h]
 ·rw[if_neg h]
  by_cases u:j<k
  ·rw[if_pos u,if_pos (by omega)]
  ·rw[if_neg u,if_neg (by omega)]
theorem zBW:(Tryz.prog.info? 3).map (fun i=>(i.zero,i.size,i.bytes))=some (some (.int .i64 0),1,8):=by kernel_rfl
theorem zCH:(Tryz.prog.info? 305).map (fun i=>(i.zero,i.size,i.bytes))=some (some (.int .u8 0),1,1):=by kernel_rfl
theorem zJe:(Tryz.prog.info? 5).map (fun i=>(i.zero,i.size,i.bytes))=some (some (.int .u8 0),1,1):=by kernel_rfl
theorem zAl:(Tryz.prog.info? 9).map (fun i=>(i.zero,i.size,i.bytes))=some (some (.string ⟨#[]⟩),1,16):=by kernel_rfl
theorem zHd:(Tryz.prog.info? 302).map (fun i=>(i.zero,i.size,i.bytes))=some (some (.slice none 0 0),1,24):=by kernel_rfl
def Cl (w:World)(b n:Nat)(v:Nat→Value):Prop:=∀i,i<n→w.cell? ⟨b,i,none⟩=some (v i)
theorem Rw.cl {w:World}{g n:Nat}{t:TypeId}{f:Nat→Value}(h:Rw w g n t f):Cl w g n f:=fun i hi=>h.cell i hi
theorem Cl.below {w w':World}{b n:Nat}{v:Nat→Value}(h:Cl w b n v){B:Nat}(hb:Below B w w')(j:b<B):Cl w' b n v:=fun i hi=>(hb.cell (p:=⟨b,i,none⟩) j).trans (h i hi)
def nb (f:Nat→Nat):Nat→Value:=fun i=>.int .u8 ((f i:Nat):Int)
def bN (s:ByteArray)(i:Nat):Nat:=(s.data.toList.getD i 0).toNat
theorem zJD (s:ByteArray)(i:Nat):bN s i<256:=(s.data.toList.getD i 0).toNat_lt
theorem zFc (s:ByteArray)(i:Nat)(h:i<s.size)(W:World):(Instr.index 9 (.string s) (.int .i64 (i:Int))).run Tryz.prog W=.ok (.int .u8 ((bN s i:Nat):Int)) W:=by
 rw[run_index_string W 9 s .i64 i Tryz.underlying9,dif_pos ⟨by omega,by omega⟩]
 have hs:i<s.data.toList.length:=h
 have e:bN s i=(s[i]'h).toNat:=by
  unfold bN
  rw[List.getD_eq_getElem?_getD,List.getElem?_eq_getElem hs]
  rfl
 rw[e]
 rfl
set_option maxHeartbeats 400000 in
theorem zMa (s:ByteArray)(w:World)(hs:s.size≤140737488351232):
 Calls Tryz.prog 206 #[.string s] w fun e w'=>e=.returned (.slice (some ⟨w.heap.size,0,none⟩) s.size s.size)∧Rw w' w.heap.size s.size 305 (nb (bN s))∧Below w.heap.size w w':=by
 have G:=run_make_row' (P:=Tryz.prog) 302 305 (.int .u8 0) 1 Tryz.underlying302 zCH rfl .i64 .i64 s.size (by omega) (by omega)
 go_enter Tryz.func206,Tryz.ntmps206
 go_wp2
 go_loopw [10] (fun i wr=>∃k:Nat,k≤s.size∧i=.int .i64 k∧Below w.heap.size w wr∧Rw wr w.heap.size s.size 305 (zL k (nb (bN s)) (.int .u8 0))) (fun i _=>s.size-(intOf i).toNat)
 case atStart=>exact⟨0,by omega,rfl,(Below.refl _ _).alloc (Nat.le_refl _) _,(Rw.made w s.size 305 (.int .u8 0)).to (fun j _=>(zo _ _ j).symm)⟩
 case round=>
  obtain⟨k,hk,rfl,hb,A⟩:=hrel
  by_cases u:k<s.size
  ·have c1:=A.cell k u
   have c2:=A.free k
   have D:=zFc s k u
   go_wp2
   go_roundw
   case rel=>exact⟨k+1,by omega,by go_num,hb.setCell (Nat.le_refl _) _,(A.put k _).to (fun j _=>by rw[←zN];rfl)⟩
   case measure=>simp[intOf];omega
  ·have e:k=s.size:=by omega
   subst e
   go_wp2
   go_ret
   exact⟨rfl,A.to (fun j F=>by simp[zL,F]),hb⟩
def pI (p:Nat→Nat):Nat→Value:=fun i=>.int .i64 ((p i:Nat):Int)
set_option maxHeartbeats 400000 in
theorem zE1 (p:Nat→Nat)(b n D:Nat)(w:World)(X:n≤1000)(hp:∀i,i<n→p i<256)(F:b<w.heap.size)(G:Cl w b n (pI p)):
 Calls Tryz.prog 208 #[.slice (some ⟨b,0,none⟩) n D] w fun e w'=>e=.returned (.slice (some ⟨w.heap.size,0,none⟩) n n)∧Rw w' w.heap.size n 305 (nb p)∧Below w.heap.size w w':=by
 have N:Hid _:=G
 have Q:Hid _:=hp
 clear G hp
 have U:=run_make_row' (P:=Tryz.prog) 302 305 (.int .u8 0) 1 Tryz.underlying302 zCH rfl .i64 .i64 n (by omega) (by omega)
 go_enter Tryz.func208,Tryz.ntmps208
 go_wp2
 go_loopw [11] (fun i wr=>∃k:Nat,k≤n∧i=.int .i64 k∧Below w.heap.size w wr∧Rw wr w.heap.size n 305 (zL k (nb p) (.int .u8 0))) (fun i _=>n-(intOf i).toNat)
 case atStart=>exact⟨0,by omega,rfl,(Below.refl _ _).alloc (Nat.le_refl _) _,(Rw.made w n 305 (.int .u8 0)).to (fun j _=>(zo _ _ j).symm)⟩
 case round=>
  obtain⟨k,hk,rfl,hb,A⟩:=hrel
  by_cases u:k<n
  ·have c1:=A.cell k u
   have c2:=A.free k
   have c3:wr.cell? ⟨b,k,none⟩=some (.int .i64 ((p k:Nat):Int)):=Cl.below N.out hb F k u
   have W:(p k:Int)<256:=by have:=Q.out k u;omega
   have J:((p k:Int)%256)=(p k:Int):=by omega
   go_wp2
   go_roundw
   case rel=>exact⟨k+1,by omega,by go_num,hb.setCell (Nat.le_refl _) _,(A.put k _).to (fun j _=>by rw[←zN];rfl)⟩
   case measure=>simp[intOf];omega
  ·have e:k=n:=by omega
   subst e
   go_wp2
   go_ret
   exact⟨rfl,A.to (fun j R=>by simp[zL,R]),hb⟩
set_option maxHeartbeats 400000 in
theorem zE2 (w:World):
 Calls Tryz.prog 208 #[.slice none 0 0] w fun e w'=>e=.returned (.slice (some ⟨w.heap.size,0,none⟩) 0 0)∧Rw w' w.heap.size 0 305 (nb fun _=>0)∧Below w.heap.size w w':=by
 have j:∀w:World,(Instr.makeSlice 302 (.int .i64 0) (.int .i64 0)).run Tryz.prog w=.ok (.slice (some ⟨w.heap.size,0,none⟩) 0 0) (w.alloc (.cells (madeCells #[.int .u8 0] 0) 305)):=run_make_row' (P:=Tryz.prog) 302 305 (.int .u8 0) 1 Tryz.underlying302 zCH rfl .i64 .i64 0 (by omega) (by omega)
 go_enter Tryz.func208,Tryz.ntmps208
 go_wp2
 refine wp_loop_rounds 1 ?_
 rw[rounds_succ]
 go_wp2
 go_ret
 exact⟨rfl,Rw.made w 0 305 (.int .u8 0),(Below.refl _ _).alloc (Nat.le_refl _) _⟩
def zK4 (n:Nat)(f:Nat→Nat):ByteArray:=strOfNums ((List.range n).map fun i=>((f i:Nat):Int))
set_option maxHeartbeats 400000 in
theorem zKF (f:Nat→Nat)(b n D:Nat)(w:World)(R:n≤140737488351232)(F:b<w.heap.size)(G:Cl w b n (nb f)):
 Calls Tryz.prog 210 #[.slice (some ⟨b,0,none⟩) n D] w fun e w'=>e=.returned (.string (zK4 n f))∧Below w.heap.size w w':=by
 have J:Hid _:=G
 clear G
 have Q:=run_make_row' (P:=Tryz.prog) 173 5 (.int .u8 0) 1 Tryz.underlying173 zJe rfl .i64 .i64 n (by omega) (by omega)
 go_enter Tryz.func210,Tryz.ntmps210
 go_wp2
 go_loopw [11] (fun i wr=>∃k:Nat,k≤n∧i=.int .i64 k∧Below w.heap.size w wr∧Rw wr w.heap.size n 5 (zL k (nb f) (.int .u8 0))) (fun i _=>n-(intOf i).toNat)
 case atStart=>exact⟨0,by omega,rfl,(Below.refl _ _).alloc (Nat.le_refl _) _,(Rw.made w n 5 (.int .u8 0)).to (fun j _=>(zo _ _ j).symm)⟩
 case round=>
  obtain⟨k,hk,rfl,hb,A⟩:=hrel
  by_cases u:k<n
  ·have c1:=A.cell k u
   have c2:=A.free k
   have c3:wr.cell? ⟨b,k,none⟩=some (.int .u8 ((f k:Nat):Int)):=Cl.below J.out hb F k u
   go_wp2
   go_roundw
   case rel=>exact⟨k+1,by omega,by go_num,hb.setCell (Nat.le_refl _) _,(A.put k _).to (fun j _=>by rw[←zN];rfl)⟩
   case measure=>simp[intOf];omega
  ·have e:k=n:=by omega
   subst e
   have N:=run_convert_bytes_arg (P:=Tryz.prog) wr 173 5 Tryz.underlying173 Tryz.underlying5 w.heap.size 0 k k ((List.range k).map fun i=>((f i:Nat):Int)) (by simp) (fun i hi=>by
    rw[Nat.zero_add,A.cell i hi]
    simp[zL,hi,nb]) 9 Tryz.underlying9
   go_wp2
   go_ret
   exact⟨rfl,hb⟩
theorem zHu (v:Value)(w:World):(method 453 305 v "Minus").run Tryz.prog w=.ok (269,v) w:=by kernel_rfl
theorem zDL (v:Value)(w:World):(method 453 305 v "Times").run Tryz.prog w=.ok (273,v) w:=by kernel_rfl
theorem zNq (v:Value)(w:World):(method 453 305 v "Plus").run Tryz.prog w=.ok (272,v) w:=by kernel_rfl
theorem zNo (v:Value)(w:World):(method 453 305 v "One").run Tryz.prog w=.ok (270,v) w:=by kernel_rfl
theorem zNp (v:Value)(w:World):(method 453 305 v "Over").run Tryz.prog w=.ok (271,v) w:=by kernel_rfl
set_option maxHeartbeats 400000 in
theorem zCA (x:Nat)(p:Nat→Nat)(b n D:Nat)(w:World)(W:x<256)(Z:n≤1000)(hp:∀i,i<n→p i<256)(F:b<w.heap.size)(J:Cl w b n (nb p)):
 Calls Tryz.prog 219 #[.int .u8 x,.slice (some ⟨b,0,none⟩) n D] w fun e w'=>e=.returned (.slice (some ⟨w.heap.size,0,none⟩) n n)∧Rw w' w.heap.size n 305 (nb fun i=>x ^^^ p i)∧Below w.heap.size w w':=by
 have N:Hid _:=J
 have Q:Hid _:=hp
 clear J hp
 have U:=run_make_row' (P:=Tryz.prog) 302 305 (.int .u8 0) 1 Tryz.underlying302 zCH rfl .i64 .i64 n (by omega) (by omega)
 go_enter Tryz.func219,Tryz.ntmps219
 go_wp2
 go_loopw [13] (fun i wr=>∃k:Nat,k≤n∧i=.int .i64 k∧Below w.heap.size w wr∧Rw wr w.heap.size n 305 (zL k (nb fun i=>x ^^^ p i) (.int .u8 0))) (fun i _=>n-(intOf i).toNat)
 case atStart=>exact⟨0,by omega,rfl,(Below.refl _ _).alloc (Nat.le_refl _) _,(Rw.made w n 305 (.int .u8 0)).to (fun j _=>(zo _ _ j).symm)⟩
 case round=>
  obtain⟨k,hk,rfl,hb,A⟩:=hrel
  by_cases u:k<n
  ·have c1:=A.cell k u
   have c2:=A.free k
   have c3:wr.cell? ⟨b,k,none⟩=some (.int .u8 ((p k:Nat):Int)):=Cl.below N.out hb F k u
   have G:=Q.out k u
   have X:=zHu
   go_wp2_with (go_at_call 269;refine (zD8 x (p k) _ W G).mono ?_;rintro e w' ⟨rfl,rfl⟩)
   go_roundw
   case rel=>exact⟨k+1,by omega,by go_num,hb.setCell (Nat.le_refl _) _,(A.put k _).to (fun j _=>by rw[←zN];rfl)⟩
   case measure=>simp[intOf];omega
  ·have e:k=n:=by omega
   subst e
   go_wp2
   go_ret
   exact⟨rfl,A.to (fun j R=>by simp[zL,R]),hb⟩
def ahd (f:Nat→Nat):Nat→Nat
 |0=>1
 |k+1=>gm (ahd f k) (f k)
def bhd (f:Nat→Nat)(n:Nat):Nat→Nat
 |0=>1
 |c+1=>gm (bhd f n c) (f (n-1-c))
def oth (f:Nat→Nat)(n j:Nat):Nat:=gm (ahd f j) (bhd f n (n-1-j))
theorem zFJ (f:Nat→Nat):∀k,ahd f k<256
 |0=>by show 1<256;omega
 |k+1=>zA0 _ _ (zFJ f k)
theorem zKW (f:Nat→Nat)(n:Nat):∀k,bhd f n k<256
 |0=>by show 1<256;omega
 |k+1=>zA0 _ _ (zKW f n k)
def mid (f:Nat→Nat)(n c:Nat):Nat→Value:=fun j=>.int .u8 (((if n-c≤j then oth f n j else ahd f j):Nat):Int)
theorem zJp (f:Nat→Nat)(n c:Nat)(A:c<n)(j:Nat)(D:j<n):zB2 (mid f n c) (n-1-c) (.int .u8 ((gm (ahd f (n-1-c)) (bhd f n c):Nat):Int)) j=mid f n (c+1) j:=by
 simp only[zB2,mid]
 by_cases h:j=n-1-c
 ·rw[if_pos h,if_pos (by omega)]
  unfold oth
  rw[h,show n-1-(n-1-c)=c by omega]
 ·rw[if_neg h]
  by_cases u:n-c≤j
  ·rw[if_pos u,if_pos (by omega)]
  ·rw[if_neg u,if_neg (by omega)]
set_option maxHeartbeats 1000000 in
theorem zGi (f:Nat→Nat)(b n X:Nat)(w:World)(hn:n≤1000)(hf:∀i,i<n→f i<256)(F:b<w.heap.size)(hc:Cl w b n (nb f)):
 Calls Tryz.prog 218 #[.slice (some ⟨b,0,none⟩) n X] w fun e w'=>e=.returned (.slice (some ⟨w.heap.size,0,none⟩) n n)∧Rw w' w.heap.size n 305 (nb (oth f n))∧Below w.heap.size w w':=by
 have W:Hid _:=hc
 have HP:Hid _:=hf
 clear hc hf
 have a7:=run_make_row' (P:=Tryz.prog) 302 305 (.int .u8 0) 1 Tryz.underlying302 zCH rfl .i64 .i64 n (by omega) (by omega)
 have a5:=zNo
 have a6:=zDL
 go_enter Tryz.func218,Tryz.ntmps218
 go_wp2_with (go_at_call 270;refine (zDR _ _).mono ?_;rintro e w' ⟨rfl,rfl⟩)
 go_loopw [18,5] (fun i v wr=>∃k:Nat,k≤n∧i=.int .i64 k∧v=.int .u8 ((ahd f k:Nat):Int)∧Below w.heap.size w wr∧Rw wr w.heap.size n 305 (zL k (nb (ahd f)) (.int .u8 0))) (fun i _ _=>n-(intOf i).toNat)
 case atStart=>exact⟨0,by omega,rfl,rfl,(Below.refl _ _).alloc (Nat.le_refl _) _,(Rw.made w n 305 (.int .u8 0)).to (fun j _=>(zo _ _ j).symm)⟩
 case round=>
  obtain⟨k,hk,rfl,rfl,hb,A⟩:=hrel
  by_cases u:k<n
  ·have c1:=A.cell k u
   have c2:=A.free k
   have c3:wr.cell? ⟨b,k,none⟩=some (.int .u8 ((f k:Nat):Int)):=Cl.below W.out hb F k u
   have J:=HP.out k u
   have a1:=zFJ f k
   go_wp2_with (go_at_call 273;refine (zAA (ahd f k) (f k) _ a1 J).mono ?_;rintro e w' ⟨rfl,rfl⟩)
   go_roundw
   case rel=>exact⟨k+1,by omega,by go_num,rfl,hb.setCell (Nat.le_refl _) _,(A.put k _).to (fun j _=>by rw[←zN];rfl)⟩
   case measure=>simp[intOf];omega
  ·have e:k=n:=by omega
   subst e
   have Q:Rw wr w.heap.size k 305 (mid f k 0):=A.to (fun j U=>by simp only[zL,mid,nb];rw[if_pos U,if_neg (by omega)])
   clear A
   go_wp2_with (go_at_call 270;refine (zDR _ _).mono ?_;rintro e w' ⟨rfl,rfl⟩)
   go_loopw [9,8] (fun i v wr=>∃c:Nat,c≤k∧i=.int .i64 ((k:Int)-1-c)∧v=.int .u8 ((bhd f k c:Nat):Int)∧Below w.heap.size w wr∧Rw wr w.heap.size k 305 (mid f k c)) (fun i _ _=>(intOf i+1).toNat)
   case atStart=>exact⟨0,by omega,by go_num,rfl,hb,Q⟩
   case round=>
    clear hb Q
    obtain⟨c,hc,rfl,rfl,hb,A⟩:=hrel
    by_cases u:c<k
    ·obtain⟨i,hi⟩:∃i:Nat,i=k-1-c:=⟨_,rfl⟩
     have G:((k:Int)-1-c)=(i:Int):=by omega
     rw[G]
     have D:i<k:=by omega
     have HI:Hid (i=k-1-c):=hi
     have N:Hid (((k:Int)-1-c)=(i:Int)):=G
     clear hi G
     have c1:wr.cell? ⟨w.heap.size,i,none⟩=some (.int .u8 ((ahd f i:Nat):Int)):=by
      rw[A.cell i D]
      simp only[mid]
      rw[if_neg (by have:=HI.out;omega)]
     have c2:=A.free i
     have c3:wr.cell? ⟨b,i,none⟩=some (.int .u8 ((f i:Nat):Int)):=Cl.below W.out hb F i D
     have J:=HP.out i D
     have Z:=zFJ f i
     have R:=zKW f k c
     go_wp2_with fail
     refine (zAA (ahd f i) (bhd f k c) _ Z R).mono ?_
     rintro e w' ⟨rfl,rfl⟩
     have c4:(w'.setCell ⟨w.heap.size,i,none⟩ (.int .u8 ((gm (ahd f i) (bhd f k c):Nat):Int))).cell? ⟨b,i,none⟩=some (.int .u8 ((f i:Nat):Int)):=Cl.below W.out (hb.setCell (Nat.le_refl _) _) F i D
     go_wp2_with fail
     refine (zAA (bhd f k c) (f i) _ R J).mono ?_
     rintro e a8 ⟨rfl,rfl⟩
     go_wp2
     go_roundw
     case rel=>exact⟨c+1,by omega,by have:=N.out;go_num,by show Value.int .u8 _=Value.int .u8 ((gm (bhd f k c) (f (k-1-c)):Nat):Int);rw[←HI.out],hb.setCell (Nat.le_refl _) _,(A.put i _).to (fun j U=>by rw[←zJp f k c u j U,←HI.out])⟩
     case measure=>have:=N.out;simp[intOf]
    ·have e:c=k:=by omega
     subst e
     go_wp2
     go_ret
     exact⟨rfl,A.to (fun j U=>by simp only[mid,nb];rw[if_pos (by omega)]),hb⟩
end Go.Proofs.YtlopecgkiikdhaaGreatDoor
