import Derived.Test.YtlopecgkiikdhaaGreatDoorX04
import Derived.Test.YtlopecgkiikdhaaGreatDoorX16
namespace Go.Proofs.YtlopecgkiikdhaaGreatDoor
open Go.RowKit
set_option maxRecDepth 100000
def m8 (n:Nat):N8:=⟨n%256,Nat.mod_lt _ (by omega)⟩
theorem zCM (n:Nat)(h:n<256):(m8 n).1=n:=Nat.mod_eq_of_lt h
theorem zNm (a b:Nat)(j:a<256)(hb:b<256)(h:m8 a=m8 b):a=b:=by
 have:=congrArg Subtype.val h
 rwa [zCM a j,zCM b hb]at this
theorem zKR (f:Nat→Nat)(G:Nat→N8)(n:Nat)(u:∀l,l<n→(G l).1=f l):∀j,j≤n→ahd f j=(GF.ahd G j).1
 |0,_=>rfl
 |j+1,h=>by
  show gm (ahd f j) (f j)=gm (GF.ahd G j).1 (G j).1
  rw[zKR f G n u j (by omega),u j (by omega)]
theorem zKV (f:Nat→Nat)(G:Nat→N8)(n:Nat)(j:∀l,l<n→(G l).1=f l):∀c,c≤n→bhd f n c=(GF.bhd G n c).1
 |0,_=>rfl
 |c+1,h=>by
  show gm (bhd f n c) (f (n-1-c))=gm (GF.bhd G n c).1 (G (n-1-c)).1
  rw[zKV f G n j c (by omega),j (n-1-c) (by omega)]
theorem zKq (f:Nat→Nat)(G:Nat→N8)(n:Nat)(u:∀l,l<n→(G l).1=f l)(j:Nat)(A:j<n):oth f n j=(GF.oth G n j).1:=by
 show gm (ahd f j) (bhd f n (n-1-j))=gm (GF.ahd G j).1 (GF.bhd G n (n-1-j)).1
 rw[zKR f G n u j (by omega),zKV f G n u (n-1-j) (by omega)]
theorem zHY (p:Nat→Nat)(P:Nat→N8)(n:Nat)(j:∀l,l<n→(P l).1=p l)(i:Nat)(hi:i<n):∀k,k≤n→hgt p i k=(GF.hgt P i k).1
 |0,_=>rfl
 |k+1,h=>by
  rw[hgt,Fld.hgt]
  by_cases e:k=i
  ·rw[if_pos e,if_pos e];exact zHY p P n j i hi k (by omega)
  ·rw[if_neg e,if_neg e]
   show gm (hgt p i k) (p i ^^^ p k)=gm (GF.hgt P i k).1 ((P i).1 ^^^ (P k).1)
   rw[zHY p P n j i hi k (by omega),j i hi,j k (by omega)]
theorem zPc (p:Nat→Nat)(P:Nat→N8)(n:Nat)(u:∀l,l<n→(P l).1=p l)(x:Nat)(X:N8)(hX:X.1=x)(j:Nat)(A:j<n):wt p n x j=(GF.wt P n X j).1:=by
 have D:oth (fun l=>x ^^^ p l) n j=(GF.oth (fun l=>GF.add X (P l)) n j).1:=
  zKq _ _ n (fun l hl=>by show X.1 ^^^ (P l).1=x ^^^ p l;rw[hX,u l hl]) j A
 show gm (oth (fun l=>x ^^^ p l) n j) (gm 1 (gi (hgt p j n)))=gm (GF.oth (fun l=>GF.add X (P l)) n j).1 (gm 1 (gi (GF.hgt P j n).1))
 rw[D,zHY p P n u j A n (Nat.le_refl _)]
theorem zOF (u:Nat→Nat)(V:Nat→Nat→Nat)(l:Nat)(U Y:Nat→N8)(n:Nat)(j:∀i,i<n→(U i).1=u i)(A:∀i,i<n→(Y i).1=V i l):∀k,k≤n→sm u V l k=(GF.sm U Y k).1
 |0,_=>rfl
 |k+1,h=>by
  show sm u V l k ^^^ gm (u k) (V k l)=(GF.sm U Y k).1 ^^^ gm (U k).1 (Y k).1
  rw[zOF u V l U Y n j A k (by omega),j k (by omega),A k (by omega)]
theorem zET (n:Nat)(f:Nat→Nat):(zK4 n f).size=n:=by simp[zK4,strOfNums_size]
theorem zLN (n:Nat)(f:Nat→Nat)(i:Nat)(hi:i<n)(hf:f i<256):bN (zK4 n f) i=f i:=by
 unfold bN zK4
 rw[strOfNums_data,List.getD_eq_getElem?_getD]
 simp[hi]
 omega
theorem zM6 (a b:ByteArray)(h:a.size=b.size)(e:∀i,i<a.size→bN a i=bN b i):a=b:=by
 apply ByteArray.ext
 apply Array.ext
 ·exact h
 ·intro i j u
  have:=e i j
  unfold bN at this
  rw[List.getD_eq_getElem?_getD,List.getD_eq_getElem?_getD,List.getElem?_eq_getElem (by simpa using j),List.getElem?_eq_getElem (by simpa using u)]at this
  exact UInt8.toNat_inj.1 this
def zOo (S:Nat→ByteArray)(k c x:Nat):ByteArray:=if x<k then S x else vl (fun i=>i) (fun i=>k+i) k c S (x-k)
theorem zDb (p:Nat→Nat)(V:Nat→Nat→Nat)(n x l:Nat)(k:Nat):sm (wt p n x) V l k<256:=zMf _ _ _ (fun i=>zMx p n x i) k
def bI (h:Nat→Bool):Nat→Value:=fun i=>.bool (h i)
set_option maxHeartbeats 400000 in
theorem zEr (h:Nat→Bool)(b n A u:Nat)(w:World)(X:n≤1000)(U:u<n)(F:h u=true)(G:∀j,j<u→h j=false)(J:Cl w b n (bI h)):
 Calls Tryz.prog 194 #[.slice (some ⟨b,0,none⟩) n A,.bool true] w fun e w'=>e=.returned (.int .i64 u)∧w'=w:=by
 have R:Hid _:=J
 have N:Hid _:=F
 have Q:Hid _:=G
 clear J F G
 go_enter Tryz.func194,Tryz.ntmps194
 go_wp2
 go_loop [8] (fun D=>∃i:Nat,i≤u∧D=.int .i64 i) (fun D=>n-(intOf D).toNat)
 case atStart=>exact⟨0,by omega,rfl⟩
 case round=>
  obtain⟨i,hi,rfl⟩:=hrel
  have c1:w.cell? ⟨b,i,none⟩=some (.bool (h i)):=R.out i (by omega)
  have W:i<n:=by omega
  by_cases e:i=u
  ·subst e
   rw[N.out]at c1
   go_wp2
   go_ret
   exact⟨rfl,rfl⟩
  ·rw[Q.out i (by omega)]at c1
   go_wp2
   go_round
   case rel=>exact⟨i+1,by omega,by go_num⟩
   case measure=>simp[intOf];omega
def knL (h:Nat→Bool)(k:Nat):Nat→List Nat
 |0=>[]
 |i+1=>if h i=true∧(knL h k i).length <k then knL h k i++[i] else knL h k i
def wnL (h:Nat→Bool)(k:Nat):Nat→List Nat
 |0=>[]
 |i+1=>if h i=true∧(knL h k i).length <k then wnL h k i else wnL h k i++[i]
theorem zHo (h:Nat→Bool)(k:Nat):∀i,(knL h k i).length≤i
 |0=>by simp[knL]
 |i+1=>by
  rw[knL]
  have:=zHo h k i
  split
  ·simp;omega
  ·omega
theorem zFG (h:Nat→Bool)(k:Nat):∀i,(wnL h k i).length≤i
 |0=>by simp[wnL]
 |i+1=>by
  rw[wnL]
  have:=zFG h k i
  split
  ·omega
  ·simp;omega
def vI (l:List Nat):List Value:=l.map fun p=>.int .i64 ((p:Nat):Int)
theorem zDg (l:List Nat)(i:Nat):vI (l++[i])=vI l++[.int .i64 ((i:Nat):Int)]:=by simp[vI]
theorem zAo {w:World}{base:Nat}{e:TypeId}{size:Nat}{v:Value}{n:Nat}{F:List Value}(h:w.ownsRow base e size v n F):∀g,v.ownBlock=some g→base≤g∧g<w.heap.size:=by
 intro g j
 rcases h.2 with ⟨u,_⟩|⟨G,A,cur,u,hb,D,_⟩
 ·rw[u]at j;simp[Value.ownBlock]at j
 ·rw[u]at j;simp[Value.ownBlock]at j
  subst j
  exact⟨hb,(Array.getElem?_eq_some_iff.1 D).1⟩
def Apt (u v:Value):Prop:=∀g,u.ownBlock=some g→v.ownBlock=some g→False
theorem Apt.symm {u v:Value}(h:Apt u v):Apt v u:=fun g a b=>h g b a
theorem Apt.ne {u v:Value}(h:Apt u v):v.ownBlock=none∨v.ownBlock≠u.ownBlock:=by
 cases hv:v.ownBlock with
 |none=>exact .inl rfl
 |some g=>exact .inr (fun e=>h g e.symm hv)
theorem Apt.step {w:World}{base:Nat}{e:TypeId}{size n:Nat}{F:List Value}{u v A:Value}(h:Apt u v)(D:w.ownsRow base e size v n F)(j:A.ownBlock=u.ownBlock∨A.ownBlock=some w.heap.size):Apt A v:=by
 intro g a b
 rcases j with j|j
 ·exact h g (by rw[←j];exact a) b
 ·rw[j]at a
  have:=(zAo D g b).2
  cases a
  omega
theorem zBy (x:Int):∀u∈[Value.int .i64 x],u.oneCell'=true:=by
 intro u j;simp at j;subst j;rfl
theorem zAV {w:World}{base:Nat}{e:TypeId}{size:Nat}{v:Value}{n:Nat}{F:List Value}(h:w.ownsRow base e size v n F):∃a j,v=.slice a n j:=by
 rcases h.2 with ⟨u,D⟩|⟨G,A,cur,u,_⟩
 ·exact⟨none,0,by rw[u,D]⟩
 ·exact⟨_,_,u⟩
set_option maxHeartbeats 1000000 in
theorem zEN (h:Nat→Bool)(b n aH k:Nat)(w:World)(hn:n≤1000)(hk:k≤1000)(hb:b<w.heap.size)(hc:Cl w b n (bI h)):
 Calls Tryz.prog 187 #[.slice (some ⟨b,0,none⟩) n aH,.int .i64 k] w fun e w'=>∃v1 v2,e=.returned (.tuple #[v1,v2])∧w'.ownsRow w.heap.size 3 1 v1 (knL h k n).length (vI (knL h k n))∧w'.ownsRow w.heap.size 3 1 v2 (wnL h k n).length (vI (wnL h k n))∧Below w.heap.size w w':=by
 have HC:Hid _:=hc
 clear hc
 obtain⟨i0,hi,aB,aC,aD⟩:=info_parts zBW
 go_enter Tryz.func187,Tryz.ntmps187
 go_wp2
 go_loopw [10,4,5] (fun iv v1 v2 wr=>∃i:Nat,i≤n∧iv=.int .i64 i∧wr.ownsRow w.heap.size 3 1 v1 (knL h k i).length (vI (knL h k i))∧wr.ownsRow w.heap.size 3 1 v2 (wnL h k i).length (vI (wnL h k i))∧Apt v1 v2∧Below w.heap.size w wr) (fun iv _ _ _=>n-(intOf iv).toNat)
 case atStart=>exact⟨0,by omega,rfl,World.ownsRow_nil _ _ _ _,World.ownsRow_nil _ _ _ _,fun g a _=>by simp[Value.ownBlock]at a,Below.refl _ _⟩
 case round=>
  obtain⟨i,aT,rfl,F,G,Q,A⟩:=hrel
  obtain⟨a1,a5,aK⟩:=zAV F
  obtain⟨a2,a6,aL⟩:=zAV G
  subst aK
  subst aL
  by_cases aJ:i<n
  ·have c1:wr.cell? ⟨b,i,none⟩=some (.bool (h i)):=Cl.below HC.out A hb i aJ
   have l1:=zHo h k i
   have l2:=zFG h k i
   have N:w.heap.size≤(wr.alloc (Obj.cells #[Value.int IntKind.i64 ((i:Nat):Int)] 3)).heap.size:=by have:=A.size;simp;omega
   by_cases hh:h i=true∧(knL h k i).length <k
   ·have W:knL h k (i+1)=knL h k i++[i]:=by rw[knL,if_pos hh]
    have a4:wnL h k (i+1)=wnL h k i:=by rw[wnL,if_pos hh]
    have a8:Hid _:=W
    have a9:Hid _:=a4
    rw[hh.1]at c1
    have aU:((knL h k i).length:Int)<(k:Int):=by omega
    clear W a4 hh
    go_wp2_with (at_builtin;refine wpList_append_own_at _ rfl (.tmp 22) (.tmp 24) 23 rfl w.heap.size 3 i0 (.int .i64 0) 1 8 Tryz.underlying23 hi aB aC aD rfl (by decide) _ (knL h k i).length (vI (knL h k i)) rfl (F.alloc _) ⟨wr.heap.size,0,none⟩ 1 1 [.int .i64 ((i:Nat):Int)] rfl rfl (cell_one_new _ _ _) (zBy _) ?kb ?kc N ?_)
    case kb=>unfold maxLen;omega
    case kc=>omega
    intro v' w' u j _ D
    have J:=(G.alloc (Obj.cells #[Value.int IntKind.i64 ((i:Nat):Int)] 3)).kept j (Q.ne)
    have R:Apt v' (.slice a2 (wnL h k i).length a6):=Apt.step Q (G.alloc (Obj.cells #[Value.int IntKind.i64 ((i:Nat):Int)] 3)) (by simpa using D)
    have U:Below w.heap.size w w':=(A.alloc A.size _).grown j N (fun g hg=>(zAo F g hg).1)
    have X:w'.ownsRow w.heap.size 3 1 v' (knL h k (i+1)).length (vI (knL h k (i+1))):=by rw[a8.out,zDg];simpa using u
    have Z:w'.ownsRow w.heap.size 3 1 (.slice a2 (wnL h k i).length a6) (wnL h k (i+1)).length (vI (wnL h k (i+1))):=by rw[a9.out];exact J
    clear u j D J F G Q A N
    go_wp2
    go_roundw
    case rel=>exact⟨i+1,by omega,by go_num,X,Z,R,U⟩
    case measure=>simp[intOf];omega
   ·have W:knL h k (i+1)=knL h k i:=by rw[knL,if_neg hh]
    have a4:wnL h k (i+1)=wnL h k i++[i]:=by rw[wnL,if_neg hh]
    have a8:Hid _:=W
    have a9:Hid _:=a4
    have aA:h i=false∨(h i=true∧(k:Int)≤((knL h k i).length:Int)):=by
     cases hv:h i with
     |false=>exact .inl rfl
     |true=>exact .inr ⟨rfl,by have:¬(knL h k i).length <k:=fun e=>hh ⟨hv,e⟩;omega⟩
    clear W a4 hh
    rcases aA with hv|⟨hv,aS⟩
    all_goals rw[hv]at c1
    all_goals
     go_wp2_with (at_builtin;refine wpList_append_own_at _ rfl (.tmp 26) (.tmp 28) 23 rfl w.heap.size 3 i0 (.int .i64 0) 1 8 Tryz.underlying23 hi aB aC aD rfl (by decide) _ (wnL h k i).length (vI (wnL h k i)) rfl (G.alloc _) ⟨wr.heap.size,0,none⟩ 1 1 [.int .i64 ((i:Nat):Int)] rfl rfl (cell_one_new _ _ _) (zBy _) ?_ ?_ N ?_)
     ·unfold maxLen;omega
     ·omega
     intro v' w' u j _ D
     have J:=(F.alloc (Obj.cells #[Value.int IntKind.i64 ((i:Nat):Int)] 3)).kept j (Q.symm.ne)
     have R:Apt v' (.slice a1 (knL h k i).length a5):=Apt.step Q.symm (F.alloc (Obj.cells #[Value.int IntKind.i64 ((i:Nat):Int)] 3)) (by simpa using D)
     have U:Below w.heap.size w w':=(A.alloc A.size _).grown j N (fun g hg=>(zAo G g hg).1)
     have Z:w'.ownsRow w.heap.size 3 1 v' (wnL h k (i+1)).length (vI (wnL h k (i+1))):=by rw[a9.out,zDg];simpa using u
     have X:w'.ownsRow w.heap.size 3 1 (.slice a1 (knL h k i).length a5) (knL h k (i+1)).length (vI (knL h k (i+1))):=by rw[a8.out];exact J
     clear u j D J F G Q A N
     go_wp2
     go_roundw
     case rel=>exact⟨i+1,by omega,by go_num,X,Z,R.symm,U⟩
     case measure=>simp[intOf];omega
  ·have e:i=n:=by omega
   subst e
   go_wp2
   go_ret2
   exact⟨_,_,rfl,F,G,A⟩
def zG3 (z:Nat→Value)(idx:Nat→Nat)(val:Nat→Value):Nat→Nat→Value
 |0=>z
 |j+1=>zB2 (zG3 z idx val j) (idx j) (val j)
def zCC (S:Nat→ByteArray)(p q:Nat→Nat)(k m c:Nat):Nat→Value:=
 zG3 (zG3 (fun _=>.string ⟨#[]⟩) p (fun i=>.string (S (p i))) k) q (tI (vl p q k c fun i=>S (p i))) m
def Same (a:Nat)(w w':World):Prop:=∀k,k≠a→w'.heap[k]? =w.heap[k]?
theorem Same.put {a:Nat}{w w':World}(h:Same a w w')(i:Nat)(v:Value):Same a w (w'.setCell ⟨a,i,none⟩ v):=fun k hk=>(heap_setCell_other w' ⟨a,i,none⟩ k v hk).trans (h k hk)
theorem Same.rw {a:Nat}{w w':World}(h:Same a w w'){g n:Nat}{t:TypeId}{f:Nat→Value}(r:Rw w g n t f)(j:g≠a):Rw w' g n t f:=by
 unfold Rw;rw[h g j];exact r
theorem Same.cl {a:Nat}{w w':World}(h:Same a w w'){b n:Nat}{v:Nat→Value}(r:Cl w b n v)(hb:b≠a):Cl w' b n v:=fun i hi=>(World.cell?_of_block (a:=⟨b,i,none⟩) (h b hb)).trans (r i hi)
def gt (l:List Nat):Nat→Nat:=fun i=>l.getD i 0
theorem zIt (l:List Nat)(i:Nat)(h:i<l.length):(vI l)[i]? =some (.int .i64 ((gt l i:Nat):Int)):=by
 simp[vI,gt,h]
theorem zIB {w:World}{B:Nat}{v:Value}{l:List Nat}(h:w.ownsRow B 3 1 v l.length (vI l))(F:0<l.length):∃g j,v=.slice (some ⟨g,0,none⟩) l.length j∧g<w.heap.size∧Cl w g l.length (pI (gt l)):=by
 rcases h.2 with ⟨_,D⟩|⟨g,j,cur,A,_,u,_⟩
 ·omega
 ·subst A
  refine⟨g,j,rfl,(Array.getElem?_eq_some_iff.1 u).1,fun i hi=> ?_⟩
  rw[h.cellAt i (by omega),zIt l i hi]
  rfl
theorem zMT {w:World}{B:Nat}{v:Value}{l:List Nat}(h:w.ownsRow B 3 1 v l.length (vI l)):Pts w v l.length (gt l):=by
 rcases h.2 with ⟨A,u⟩|⟨g,j,cur,F,_,D,_⟩
 ·exact .inl ⟨A,u⟩
 ·subst F
  refine .inr ⟨g,j,rfl,(Array.getElem?_eq_some_iff.1 D).1,fun i hi=> ?_⟩
  rw[h.cellAt i (by omega),zIt l i hi]
  rfl
theorem zA9 (h:Nat→Bool)(k:Nat):∀n x,x∈knL h k n→x<n∧h x=true
 |0,x,j=>by simp[knL]at j
 |n+1,x,j=>by
  rw[knL]at j
  split at j
  ·rename_i hc
   rcases List.mem_append.1 j with j|j
   ·have:=zA9 h k n x j;exact⟨by omega,this.2⟩
   ·simp at j;subst j;exact⟨by omega,hc.1⟩
  ·have:=zA9 h k n x j;exact⟨by omega,this.2⟩
theorem zFH (h:Nat→Bool)(k:Nat):∀n x,x∈wnL h k n→x<n
 |0,x,j=>by simp[wnL]at j
 |n+1,x,j=>by
  rw[wnL]at j
  split at j
  ·have:=zFH h k n x j;omega
  ·rcases List.mem_append.1 j with j|j
   ·have:=zFH h k n x j;omega
   ·simp at j;omega
theorem zCF (l:List Nat)(i:Nat)(h:i<l.length):gt l i∈l:=by
 unfold gt;rw[List.getD_eq_getElem?_getD,List.getElem?_eq_getElem h];exact List.getElem_mem h
theorem zDV (z:Nat→Value)(u:Nat→Nat)(A T:Nat→Value)(x:Nat):∀m,(∀j,j<m→A j=T (u j))→((∃j,j<m∧u j=x)∨z x=T x)→zG3 z u A m x=T x
 |0,_,h=>by
  rcases h with ⟨j,D,_⟩|h
  ·omega
  ·exact h
 |m+1,hv,h=>by
  rw[zG3,zB2]
  by_cases e:x=u m
  ·rw[if_pos e,hv m (by omega),e]
  ·rw[if_neg e]
   refine zDV z u A T x m (fun j D=>hv j (by omega)) ?_
   rcases h with ⟨j,D,F⟩|h
   ·refine .inl ⟨j,?_,F⟩
    by_cases G:j=m
    ·subst G;exact absurd F.symm e
    ·omega
   ·exact .inr h
theorem zFf (h:Nat→Bool)(k:Nat):∀n,(knL h k n).Pairwise (·< ·)
 |0=>by simp[knL]
 |n+1=>by
  rw[knL]
  split
  ·refine List.pairwise_append.2 ⟨zFf h k n,by simp,fun a j b hb=> ?_⟩
   simp at hb;rw[hb];exact (zA9 h k n a j).1
  ·exact zFf h k n
theorem zNQ (l:List Nat)(hl:l.Pairwise (·< ·))(i j:Nat)(u:i<j)(A:j<l.length):gt l i<gt l j:=by
 unfold gt
 rw[List.getD_eq_getElem?_getD,List.getD_eq_getElem?_getD,List.getElem?_eq_getElem A,List.getElem?_eq_getElem (by omega:i<l.length)]
 exact List.pairwise_iff_getElem.1 hl i j (by omega) A u
theorem zDy (l:List Nat)(x:Nat)(h:x∈l):∃j,j<l.length∧gt l j=x:=by
 obtain⟨j,u,e⟩:=List.mem_iff_getElem.1 h
 refine⟨j,u,?_⟩
 unfold gt
 rw[List.getD_eq_getElem?_getD,List.getElem?_eq_getElem u]
 exact e
theorem zNC (h:Nat→Bool)(k x:Nat):∀n,x<n→x∈knL h k n∨x∈wnL h k n
 |0,hx=>by omega
 |n+1,hx=>by
  rw[knL,wnL]
  by_cases e:x=n
  ·subst e
   by_cases j:h x=true∧(knL h k x).length <k
   ·rw[if_pos j];left;simp
   ·rw[if_neg j,if_neg j];right;simp
  ·have:=zNC h k x n (by omega)
   by_cases j:h n=true∧(knL h k n).length <k
   ·rw[if_pos j,if_pos j]
    rcases this with u|u
    ·left;exact List.mem_append.2 (.inl u)
    ·right;exact u
   ·rw[if_neg j,if_neg j]
    rcases this with u|u
    ·left;exact u
    ·right;exact List.mem_append.2 (.inl u)
def cnt (h:Nat→Bool):Nat→Nat
 |0=>0
 |n+1=>cnt h n+(if h n=true then 1 else 0)
theorem zCJ (h:Nat→Bool)(k:Nat):∀n,(knL h k n).length=min k (cnt h n)
 |0=>by simp[knL,cnt]
 |n+1=>by
  rw[knL,cnt]
  have:=zCJ h k n
  by_cases j:h n=true
  ·rw[if_pos j]
   by_cases u:(knL h k n).length <k
   ·rw[if_pos ⟨j,u⟩,List.length_append,this];simp;omega
   ·rw[if_neg (fun x=>u x.2),this];omega
  ·rw[if_neg j,if_neg (fun x=>j x.1),this];omega
def zAx (h:Nat→Bool)(x:Nat)(b:Bool):Nat→Bool:=fun j=>if j=x then b else h j
theorem zB7 (h:Nat→Bool):∀n,0<cnt h n→∃i,i<n∧h i=true∧∀j,j<i→h j=false
 |0,p=>by simp[cnt]at p
 |n+1,p=>by
  rw[cnt]at p
  by_cases q:0<cnt h n
  ·obtain⟨i,hi,A,G⟩:=zB7 h n q;exact⟨i,by omega,A,G⟩
  ·have R:cnt h n=0:=by omega
   have A:h n=true:=by
    by_cases e:h n=true
    ·exact e
    ·rw[if_neg e]at p;omega
   refine⟨n,by omega,A,fun j J=> ?_⟩
   have u:∀m,j<m→m≤n→cnt h m=0→h j=false:=by
    intro m
    induction m with
    |zero=>intro Q;omega
    |succ m ih=>
     intro Q N F
     rw[cnt]at F
     by_cases e:j=m
     ·subst e
      by_cases D:h j=true
      ·rw[if_pos D]at F;omega
      ·simpa using D
     ·exact ih (by omega) (by omega) (by omega)
   exact u n J (Nat.le_refl _) R
end Go.Proofs.YtlopecgkiikdhaaGreatDoor
