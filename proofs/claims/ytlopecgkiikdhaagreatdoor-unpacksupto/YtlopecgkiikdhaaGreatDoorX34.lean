import Derived.Test.YtlopecgkiikdhaaGreatDoorX33
namespace Go.Proofs.YtlopecgkiikdhaaGreatDoor
open Go.RowKit
set_option maxRecDepth 100000
set_option maxHeartbeats 1000000
structure RSet (kt:Nat→Int)(t0:ByteArray)(hs:List ByteArray):Prop where
 head:hs.head? =some t0
 rd:∀x∈hs,rdE kt x=none
 same:∀x∈hs,zAT t0 x
 once:hs.Pairwise fun a b=>(tT a).num≠(tT b).num
structure RIn (kt:Nat→Int)(hs:List ByteArray):Prop where
 rd:∀x∈hs,rdE kt x=none
 same:∀t0,hs.head? =some t0→∀x∈hs,zAT t0 x
 once:hs.Pairwise fun a b=>(tT a).num≠(tT b).num
theorem zOB {kt:Nat→Int}{rt t:ByteArray}(h:sdE kt rt t=none):rdE kt t=none:=by
 unfold sdE at h
 split at h
 ·exact h
 ·rename_i hs;simpa using hs
theorem RIn.step {kt:Nat→Int}{rt t:ByteArray}{i:Nat}{r:RO}(h:RIn kt r.hs):RIn kt (r.step kt rt i t).hs:=by
 unfold RO.step
 split
 ·exact h
 ·rename_i hsd
  split
  ·rename_i hj
   cases hh:r.hs with
   |nil=>
    refine⟨fun x j=> ?_,fun t0 u x j=> ?_,?_⟩
    ·obtain rfl:x=t:=by simpa using j
     exact zOB hsd
    ·obtain rfl:x=t:=by simpa using j
     obtain rfl:x=t0:=by simpa using u
     exact⟨rfl,rfl,rfl⟩
    ·show List.Pairwise _ [t]
     simp
   |cons y l=>
    rw[hh]at h hj
    simp only[jnK]at hj
    split at hj
    ·rename_i hS
     split at hj
     ·cases hj
     ·rename_i hn
      refine⟨fun x j=> ?_,fun t0 u x j=> ?_,?_⟩
      ·rcases List.mem_append.1 j with j|j
       ·exact h.rd x j
       ·rw[List.mem_singleton.1 j];exact zOB hsd
      ·obtain rfl:y=t0:=by simpa using u
       rcases List.mem_append.1 j with j|j
       ·exact h.same y rfl x j
       ·rw[List.mem_singleton.1 j];exact hS
      ·show List.Pairwise _ ((y::l)++[t])
       refine List.pairwise_append.2 ⟨h.once,by simp,fun a A b hb=> ?_⟩
       rw[List.mem_singleton.1 hb]
       intro e
       exact hn (List.any_eq_true.2 ⟨a,A,decide_eq_true e⟩)
    ·cases hj
  ·exact h
theorem RIn.run {kt:Nat→Int}{rt:ByteArray}:∀(l:List ByteArray) (i:Nat) (r:RO),RIn kt r.hs→RIn kt (RO.run kt rt i l r).hs
 |[],_,_,h=>h
 |t::l,i,r,h=>RIn.run l (i+1) (r.step kt rt i t) h.step
theorem RIn.new (kt:Nat→Int):RIn kt RO.new.hs:=⟨fun x j=>(by cases j),fun t0 h=>(by cases h),List.Pairwise.nil⟩
theorem RIn.set {kt:Nat→Int}{hs:List ByteArray}{t0:ByteArray}(h:RIn kt hs)(j:hs.head? =some t0):RSet kt t0 hs:=⟨j,h.rd,h.same t0 j,h.once⟩
theorem RSet.mem0 {kt:Nat→Int}{t0:ByteArray}{hs:List ByteArray}(h:RSet kt t0 hs):t0∈hs:=List.mem_of_mem_head? h.head
theorem RSet.eq {kt:Nat→Int}{t0:ByteArray}{hs:List ByteArray}(h:RSet kt t0 hs){x:ByteArray}(j:x∈hs):LEq (tT t0).L (tT x).L:=zCW (zR (zY (h.rd t0 h.mem0)).2.1) (zR (zY (h.rd x j)).2.1) (h.same x j).2.1
def Cov (t:ByteArray)(n:Nat):Prop:=(tT t).first≤n∧n<(tT t).first+nB t
theorem zHH {kt:Nat→Int}{t:ByteArray}{n:Nat}(h:rdE kt t=none)(j:Cov t n):(tT t).num*(tT t).L.cnt /(tT t).L.V≤n∧n<((tT t).num+1)*(tT t).L.cnt /(tT t).L.V:=by
 obtain⟨_,u,_⟩:=zMY h
 have A:(tT t).first=(tT t).num*(tT t).L.cnt /(tT t).L.V:=rfl
 unfold Cov at j
 omega
theorem zKu {α:Type}{R:α→α→Prop}{l:List α}(h:l.Pairwise R){i j:Nat}{a b:α}(J:l[i]? =some a)(hb:l[j]? =some b)(u:i<j):R a b:=by
 obtain⟨F,A⟩:=List.getElem?_eq_some_iff.1 J
 obtain⟨G,D⟩:=List.getElem?_eq_some_iff.1 hb
 have:=List.pairwise_iff_getElem.1 h i j F G u
 rw[A,D]at this
 exact this
theorem RSet.one {kt:Nat→Int}{t0:ByteArray}{hs:List ByteArray}(h:RSet kt t0 hs){i j:Nat}{a b:ByteArray}{n:Nat}(A:hs[i]? =some a)(hb:hs[j]? =some b)(N:Cov a n)(Q:Cov b n):i=j:=by
 have G:=List.mem_of_getElem? A
 have J:=List.mem_of_getElem? hb
 have R:=zHH (h.rd a G) N
 have rb:=zHH (h.rd b J) Q
 have D:=h.eq G
 have F:=h.eq J
 rw[D.cnt,D.V]at R
 rw[F.cnt,F.V]at rb
 have u:(tT a).num=(tT b).num:=by
  rcases Nat.lt_trichotomy (tT a).num (tT b).num with hl|hl|hl
  ·have:=zF5 (cnt:=(tT t0).L.cnt) (V:=(tT t0).L.V) hl
   omega
  ·exact hl
  ·have:=zF5 (cnt:=(tT t0).L.cnt) (V:=(tT t0).L.V) hl
   omega
 rcases Nat.lt_trichotomy i j with hl|hl|hl
 ·exact absurd u (zKu h.once A hb hl)
 ·exact hl
 ·exact absurd u.symm (zKu h.once hb A hl)
theorem zEm {n:Nat}:∀(hs:List ByteArray) (b:Nat→ByteArray),(∀t∈hs,¬Cov t n)→hs.foldl (fun b t=>laid b (tT t).first (nB t) (pc (zX t) (tT t).L.C)) b n=b n
 |[],_,_=>rfl
 |x::r,b,h=>by
  rw[List.foldl_cons,zEm r _ (fun t j=>h t (List.mem_cons_of_mem _ j))]
  unfold laid
  exact if_neg (h x List.mem_cons_self)
theorem zFZ {n:Nat}:∀(hs:List ByteArray) (b:Nat→ByteArray) (i:Nat) (t:ByteArray),hs[i]? =some t→Cov t n→(∀j u,hs[j]? =some u→Cov u n→j=i)→hs.foldl (fun b t=>laid b (tT t).first (nB t) (pc (zX t) (tT t).L.C)) b n=pc (zX t) (tT t).L.C (n-(tT t).first)
 |[],_,i,t,h,_,_=>by simp at h
 |x::r,b,0,t,h,hc,hu=>by
  obtain rfl:x=t:=by simpa using h
  rw[List.foldl_cons,zEm r _ (fun u F A=>by
   obtain⟨j,D⟩:=List.getElem?_of_mem F
   have:=hu (j+1) u (by simpa using D) A
   omega)]
  unfold laid
  exact if_pos hc
 |x::r,b,i+1,t,h,hc,hu=>by
  rw[List.foldl_cons]
  exact zFZ r _ i t (by simpa using h) hc (fun j u D A=>by
   have:=hu (j+1) u (by simpa using D) A
   omega)
def zG2 (hs:List ByteArray)(n:Nat):Bool:=hs.any fun t=>decide ((tT t).first≤n∧n<(tT t).first+nB t)
theorem RSet.bl_yes {kt:Nat→Int}{t0:ByteArray}{hs:List ByteArray}(h:RSet kt t0 hs){i n:Nat}{t:ByteArray}(A:hs[i]? =some t)(u:Cov t n):blH hs n=pc (zX t) (tT t).L.C (n-(tT t).first):=zFZ hs noT i t A u (fun _ _ D j=>h.one D A j u)
theorem zM8 {hs:List ByteArray}{n:Nat}(h:∀t∈hs,¬Cov t n):blH hs n=⟨#[]⟩:=zEm hs noT h
theorem zFT {hs:List ByteArray}{n:Nat}{t:ByteArray}(u:t∈hs)(j:Cov t n):zG2 hs n=true:=List.any_eq_true.2 ⟨t,u,decide_eq_true (show (tT t).first≤n∧n<(tT t).first+nB t from j)⟩
theorem zLU {hs:List ByteArray}{n:Nat}(h:∀t∈hs,¬Cov t n):zG2 hs n=false:=by
 unfold zG2
 rw[List.any_eq_false]
 intro t u e
 have j:=of_decide_eq_true e
 exact h t u j
theorem RSet.bl_size {kt:Nat→Int}{t0:ByteArray}{hs:List ByteArray}(h:RSet kt t0 hs)(n:Nat):(zG2 hs n=true→(blH hs n).size=(tT t0).L.C)∧(zG2 hs n=false→blH hs n=⟨#[]⟩):=by
 constructor
 ·intro e
  obtain⟨t,u,D⟩:=List.any_eq_true.1 e
  have j:Cov t n:=by have F:=of_decide_eq_true D;exact F
  obtain⟨i,hi⟩:=List.getElem?_of_mem u
  rw[h.bl_yes hi j]
  have Q:=(h.eq u).C
  have A:n-(tT t).first <(zX t).size /(tT t).L.C:=by
   have G:n<(tT t).first+nB t:=j.2
   unfold nB at G
   have:=j.1
   omega
  have N:1≤(tT t).L.C:=(zAz (zY (h.rd t u)).2.1:zt (tT t)).c1
  rw[←Q]
  unfold pc
  rw[ByteArray.size_extract]
  have J:(n-(tT t).first+1)*(tT t).L.C≤(zX t).size:=Nat.le_trans (Nat.mul_le_mul_right _ A) (Nat.div_mul_le_self _ _)
  rw[Nat.min_eq_left J,Nat.succ_mul]
  omega
 ·intro e
  refine zM8 (fun t u j=> ?_)
  rw[zFT u j]at e
  cases e
theorem RSet.good {kt:Nat→Int}{t0:ByteArray}{hs:List ByteArray}(h:RSet kt t0 hs)(lv:ByteArray)(n:Nat):zAG kt (tT t0).L.C lv n (blH hs n)=(zG2 hs n&&decide (za (ofT kt) (blH hs n)=pc lv 32 n)):=by
 unfold zAG
 cases hc:zG2 hs n with
 |true=>
  have:=(h.bl_size n).1 hc
  simp[this]
 |false=>
  have j:=(h.bl_size n).2 hc
  have u:1≤(tT t0).L.C:=(zAz (zY (h.rd t0 h.mem0)).2.1:zt (tT t0)).c1
  rw[j]
  simp
  intro e
  have:(⟨#[]⟩:ByteArray).size=0:=rfl
  omega
def hsL (h:Nat→Bool):Nat→List Nat
 |0=>[]
 |i+1=>if h i=true then hsL h i++[i] else hsL h i
theorem zHa (h:Nat→Bool):∀i,(hsL h i).length≤i
 |0=>by simp[hsL]
 |i+1=>by
  rw[hsL]
  have:=zHa h i
  split
  ·simp;omega
  ·omega
theorem zDD (h:Nat→Bool):∀n x,x∈hsL h n→x<n∧h x=true
 |0,x,j=>by simp[hsL]at j
 |n+1,x,j=>by
  rw[hsL]at j
  split at j
  ·rename_i e
   rcases List.mem_append.1 j with j|j
   ·have:=zDD h n x j;exact⟨by omega,this.2⟩
   ·simp at j;subst j;exact⟨by omega,e⟩
  ·have:=zDD h n x j;exact⟨by omega,this.2⟩
theorem zDF (h:Nat→Bool)(k:Nat):∀n,knL h k n=(hsL h n).take k
 |0=>by simp[knL,hsL]
 |n+1=>by
  have j:=zDF h k n
  rw[knL,hsL]
  by_cases e:h n=true
  ·rw[if_pos e]
   by_cases l:(hsL h n).length <k
   ·rw[if_pos ⟨e,by rw[j,List.length_take];omega⟩,j,List.take_of_length_le (by omega),List.take_of_length_le (by simp;omega)]
   ·rw[if_neg (fun u=>by have:=u.2;rw[j,List.length_take]at this;omega),j,List.take_append_of_le_length (by omega)]
  ·rw[if_neg e,if_neg (fun u=>e u.1),j]
theorem zLi (l:List Nat)(k i:Nat)(hi:i<k):gt (l.take k) i=gt l i:=by
 unfold gt
 rw[List.getD_eq_getElem?_getD,List.getD_eq_getElem?_getD,List.getElem?_take,if_pos hi]
def zCz (B:Nat→ByteArray)(p:Nat→Nat)(k c x:Nat):ByteArray:=zK4 c fun l=>sm (wt p k x) (fun i l=>bN (B (p i)) l) l k
theorem zMX (B:Nat→ByteArray)(p:Nat→Nat)(k c j:Nat)(u:j<k)(D:∀i,i<k→(B (p i)).size=c)(hp:∀i,i<k→p i<256)(hd:∀i j,i<k→j<k→i≠j→p i≠p j):B (p j)=zCz B p k c (p j):=by
 apply zM6
 ·rw[D j u];exact (zET c _).symm
 ·intro l hl
  rw[D j u]at hl
  refine Eq.trans ?_ (zLN c (fun l=>sm (wt p k (p j)) (fun i l=>bN (B (p i)) l) l k) l hl (zDb _ _ _ _ _ _)).symm
  show bN (B (p j)) l=sm (wt p k (p j)) (fun i l=>bN (B (p i)) l) l k
  rw[zOF (wt p k (p j)) (fun i l=>bN (B (p i)) l) l (GF.wt (fun i=>m8 (p i)) k (m8 (p j))) (fun i=>m8 (bN (B (p i)) l)) k (fun i hi=>(zPc p (fun i=>m8 (p i)) k (fun a F=>zCM _ (hp a F)) (p j) (m8 (p j)) (zCM _ (hp j u)) i hi).symm) (fun i _=>zCM _ (zJD _ _)) k (Nat.le_refl _),
   Fld.sm_at GF (fun i=>m8 (p i)) (fun i=>m8 (bN (B (p i)) l)) k (fun i j hi u A e=>hd i j hi u A (zNm _ _ (hp i hi) (hp j u) e)) j u k (Nat.le_refl _),if_pos u,zCM _ (zJD _ _)]
theorem zGP (B:Nat→ByteArray)(h:Nat→Bool)(k n c:Nat)(U:n≤255)(D:(knL h k n).length=k)(Q:∀i,i<n→h i=true→(B i).size=c)(x:Nat)(R:x<n):
 zCC B (gt (knL h k n)) (gt (wnL h k n)) k (wnL h k n).length c x=.string (zCz B (gt (knL h k n)) k c x):=by
 have A:∀i,i<k→gt (knL h k n) i<n∧h (gt (knL h k n) i)=true:=fun i hi=>zA9 h k n _ (zCF (knL h k n) i (by rw[D];exact hi))
 have J:∀i,i<k→gt (knL h k n) i<256:=fun i hi=>by have:=A i hi;omega
 have N:∀i j,i<k→j<k→i≠j→gt (knL h k n) i≠gt (knL h k n) j:=fun i j hi u e=>by
  rcases Nat.lt_or_gt_of_ne e with e|e
  ·have:=zNQ _ (zFf h k n) i j e (by rw[D];exact u);omega
  ·have:=zNQ _ (zFf h k n) j i e (by rw[D];exact hi);omega
 have G:∀j,j<k→B (gt (knL h k n) j)=zCz B (gt (knL h k n)) k c (gt (knL h k n) j):=fun j u=>zMX B _ k c j u (fun i hi=>Q _ (A i hi).1 (A i hi).2) J N
 unfold zCC
 refine zDV _ _ _ (fun x=>.string (zCz B (gt (knL h k n)) k c x)) x _ (fun j u=>rfl) ?_
 rcases zNC h k x n R with F|F
 ·right
  refine zDV _ _ _ (fun x=>.string (zCz B (gt (knL h k n)) k c x)) x _ (fun j u=>congrArg Value.string (G j u)) (.inl ?_)
  obtain⟨j,u,e⟩:=zDy _ _ F
  exact⟨j,by rw[D]at u;exact u,e⟩
 ·left;exact zDy _ _ F
set_option maxHeartbeats 2000000
def zOl (o:Out)(K M:Int)(v vb:Value)(w:World):Prop:=Calls Tryz.prog 123 #[.int .i64 K,.int .i64 M,v,vb] w fun e w'=>∃x y,e=.returned (.tuple #[x,y])∧zKQ w o x y w'
def tS (S:Nat→ByteArray)(l:List Nat):List Value:=l.map fun p=>.string (S p)
theorem zIh (S:Nat→ByteArray)(l:List Nat)(i:Nat):tS S (l++[i])=tS S l++[.string (S i)]:=by simp[tS]
theorem zOJ (S:Nat→ByteArray)(l:List Nat)(i:Nat)(h:i<l.length):(tS S l)[i]? =some (.string (S (gt l i))):=by
 simp[tS,gt,h]
theorem zIC {w:World}{B:Nat}{a:Option Addr}{c L:Nat}{S:Nat→ByteArray}{l:List Nat}(h:w.ownsRow B 9 1 (.slice a L c) L (tS S l))(hl:l.length=L)(J:0<L):∃g,a=some ⟨g,0,none⟩∧g<w.heap.size∧L≤c∧∀i,i<L→w.cell? ⟨g,i,none⟩=some (.string (S (gt l i))):=by
 rcases h.2 with ⟨e,G⟩|⟨g,A,cur,j,N,F,D,u⟩
 ·omega
 ·simp only[Value.slice.injEq]at j
  obtain⟨rfl,_,rfl⟩:=j
  exact⟨g,rfl,(Array.getElem?_eq_some_iff.1 F).1,D,fun i hi=>by rw[h.cellAt i (by omega),zOJ S l i (by omega)]⟩
theorem zNx {w:World}{B:Nat}{a:Option Addr}{c L:Nat}{l:List Nat}(h:w.ownsRow B 3 1 (.slice a L c) L (vI l))(hl:l.length=L)(J:0<L):∃g,a=some ⟨g,0,none⟩∧g<w.heap.size∧L≤c∧∀i,i<L→w.cell? ⟨g,i,none⟩=some (.int .i64 ((gt l i:Nat):Int)):=by
 rcases h.2 with ⟨e,G⟩|⟨g,A,cur,j,N,F,D,u⟩
 ·omega
 ·simp only[Value.slice.injEq]at j
  obtain⟨rfl,_,rfl⟩:=j
  exact⟨g,rfl,(Array.getElem?_eq_some_iff.1 F).1,D,fun i hi=>by rw[h.cellAt i (by omega),zIt l i (by omega)]⟩
theorem zIT (o:Out)(S:Nat→ByteArray)(h:Nat→Bool)(k m n N b o1 cU b2 o2 bK c:Nat)(w:World)(d0:1≤k)(d1:k+m≤255)(hn:n=k+m)(hc:c≤1000000000000)(hN:N≤n)(hS:∀i,i<N→h i=true→(S i).size=c)
 (aK:(o=.bad 4 N∧N<n∧h N=true∧(S N).size≠c∧0<(hsL h N).length)∨(N=n∧∃L:Nat,(hsL h n).length=L∧L<k∧o=.bad 14 L)∨(N=n∧(knL h k n).length=k∧o=.good n (zCz S (gt (knL h k n)) k c)))
 (hb:b<w.heap.size) (hC:∀i,i<n→w.cell? ⟨b,o1+i,none⟩=some (.string (S i))) (bP:b2<w.heap.size) (bL:∀i,i<n→w.cell? ⟨b2,o2+i,none⟩=some (.bool (h i))):
 zOl o k m (.slice (some ⟨b,o1,none⟩) n cU) (.slice (some ⟨b2,o2,none⟩) n bK) w:=by
 have HC:Hid _:=hC
 have bG:Hid _:=bL
 have HS:Hid _:=hS
 have cN:Hid _:=aK
 have aB:Hid (((k:Int)+(m:Int))=(n:Int)):=by show ((k:Int)+(m:Int))=(n:Int);omega
 have d3:n≤255:=by omega
 have dS:k≤n:=by omega
 clear hC bL hS aK
 have dT:((n:Int) != (k:Int)+(m:Int))=false:=by rw[bne_eq_false_iff_eq];omega
 have HN:Hid _:=hn
 clear hn
 obtain⟨cE,bV,cB,cC,cD⟩:=info_parts zBW
 obtain⟨bE,b7,bB,bC,bD⟩:=info_parts zAl
 unfold zOl
 go_enter Tryz.func123,Tryz.ntmps123
 go_wp2_with fail
 refine (zPB k m w d0 d1).mono ?_
 rintro e D ⟨rfl,rfl⟩
 go_wp2
 go_loopw [13,11,12] (fun iv v1 v2 wr=>∃i L:Nat,i≤N∧iv=.int .i64 i∧(hsL h i).length=L∧wr.ownsRow D.heap.size 3 1 v1 L (vI (hsL h i))∧wr.ownsRow D.heap.size 9 1 v2 L (tS S (hsL h i))∧Apt v1 v2∧Below D.heap.size D wr) (fun iv _ _ _=>n-(intOf iv).toNat)
 case atStart=>exact⟨0,0,by omega,rfl,rfl,World.ownsRow_nil _ _ _ _,World.ownsRow_nil _ _ _ _,fun g a _=>by simp[Value.ownBlock]at a,Below.refl _ _⟩
 case round=>
  obtain⟨i,L,hi,rfl,b5,b9,bA,bO,aJ⟩:=hrel
  obtain⟨a1,a8,hu⟩:=zAV b9
  subst hu
  obtain⟨a2,R,hu⟩:=zAV bA
  subst hu
  have dN:L≤i:=by rw[←b5];exact zHa h i
  have Q:Hid _:=b5
  have a7:Hid (wr.ownsRow D.heap.size 3 1 (.slice a1 L a8) L (vI (hsL h i))):=b9
  have X:Hid (wr.ownsRow D.heap.size 9 1 (.slice a2 L R) L (tS S (hsL h i))):=bA
  have a4:Hid (Apt (.slice a1 L a8) (.slice a2 L R)):=bO
  have J:Hid (Below D.heap.size D wr):=aJ
  clear b5 b9 bA bO aJ
  by_cases d2:i<N
  ·have cZ:(i:Int)<(k:Int)+(m:Int):=by rw[aB.out];omega
   have bW:(i:Int)<(n:Int):=by omega
   have c1:wr.cell? ⟨b2,o2+i,none⟩=some (.bool (h i)):=(J.out.cell (p:=⟨b2,o2+i,none⟩) bP).trans (bG.out i (by omega))
   by_cases hh:h i=true
   ·rw[hh]at c1
    have c2:wr.cell? ⟨b,o1+i,none⟩=some (.string (S i)):=(J.out.cell (p:=⟨b,o1+i,none⟩) hb).trans (HC.out i (by omega))
    have U:Hid (hsL h (i+1)=hsL h i++[i]):=by show hsL h (i+1)=_;rw[hsL,if_pos hh]
    have d5:=HS.out i d2 hh
    by_cases a9:0<L
    ·obtain⟨g2,aI,_,_,aL⟩:=zIC X.out Q.out a9
     subst aI
     have c3:wr.cell? ⟨g2,0,none⟩=some (.string (S (gt (hsL h i) 0))):=aL 0 a9
     have a5:=zDD h i _ (zCF (hsL h i) 0 (by rw[Q.out];exact a9))
     have aN:=HS.out (gt (hsL h i) 0) (by omega) a5.2
     have bY:(((S i).size:Int) != ((S (gt (hsL h i) 0)).size:Int))=false:=by rw[bne_eq_false_iff_eq,d5,aN]
     have hd:(0:Int)<(L:Int):=by omega
     have aY:(0:Int)≤(i:Int):=by omega
     clear aL a5 aN
     go_wp2
     go_quiet (fail)
     have P1:Hid ((wr.drewN nq).ownsRow D.heap.size 3 1 (.slice a1 L a8) L (vI (hsL h i))):=zI a7.out (below_drewN (Below.refl _ _) nq)
     have P2:Hid ((wr.drewN nq).ownsRow D.heap.size 9 1 (.slice (some ⟨g2,0,none⟩) L R) L (tS S (hsL h i))):=zI X.out (below_drewN (Below.refl _ _) nq)
     have PB:Hid (Below D.heap.size D (wr.drewN nq)):=below_drewN J.out nq
     obtain⟨wq,aO⟩:∃wq,wq=wr.drewN nq:=⟨_,rfl⟩
     rw[←aO]at P1 P2 PB ⊢
     clear aO a7 X J c1 c2 c3
     have G:D.heap.size≤(wq.alloc (Obj.cells #[Value.int IntKind.i64 ((i:Nat):Int)] 3)).heap.size:=by have:=PB.out.size;simp;omega
     go_wp2_with (at_builtin;refine wpList_append_own_at _ rfl (.tmp 71) (.tmp 73) 23 rfl D.heap.size 3 cE (.int .i64 0) 1 8 Tryz.underlying23 bV cB cC cD rfl (by decide) _ L (vI (hsL h i)) rfl (P1.out.alloc _) ⟨wq.heap.size,0,none⟩ 1 1 [.int .i64 ((i:Nat):Int)] rfl rfl (cell_one_new _ _ _) (zBy _) ?kb ?kc G ?_)
     case kb=>unfold maxLen;omega
     case kc=>omega
     intro v' w' A u _ F
     have Q2:Hid (w'.ownsRow D.heap.size 9 1 (.slice (some ⟨g2,0,none⟩) L R) L (tS S (hsL h i))):=(P2.out.alloc (Obj.cells #[Value.int IntKind.i64 ((i:Nat):Int)] 3)).kept u a4.out.ne
     have QA:Hid (Apt v' (.slice (some ⟨g2,0,none⟩) L R)):=Apt.step a4.out (P2.out.alloc (Obj.cells #[Value.int IntKind.i64 ((i:Nat):Int)] 3)) (by simpa using F)
     have QB:Hid (Below D.heap.size D w'):=(PB.out.alloc PB.out.size _).grown u G (fun g hg=>(zAo P1.out g hg).1)
     have Q1:Hid (w'.ownsRow D.heap.size 3 1 v' (L+1) (vI (hsL h (i+1)))):=by show w'.ownsRow _ _ _ _ _ _;rw[U.out,zDg];exact A
     have c2:w'.cell? ⟨b,o1+i,none⟩=some (.string (S i)):=(QB.out.cell (p:=⟨b,o1+i,none⟩) hb).trans (HC.out i (by omega))
     clear A u F P1 P2 PB G a4
     have G:D.heap.size≤(w'.alloc (Obj.cells #[Value.string (S i)] 9)).heap.size:=by have:=QB.out.size;simp;omega
     go_wp2_with (at_builtin;refine wpList_append_own_at _ rfl (.tmp 75) (.tmp 80) 22 rfl D.heap.size 9 bE (.string ⟨#[]⟩) 1 16 Tryz.underlying22 b7 bB bC bD rfl (by decide) _ L (tS S (hsL h i)) rfl (Q2.out.alloc _) ⟨w'.heap.size,0,none⟩ 1 1 [.string (S i)] rfl rfl (cell_one_new _ _ _) (zDc _) ?kb ?kc G ?_)
     case kb=>unfold maxLen;omega
     case kc=>omega
     intro aQ Z A u _ F
     have R1:Hid (Z.ownsRow D.heap.size 3 1 v' (L+1) (vI (hsL h (i+1)))):=(Q1.out.alloc (Obj.cells #[Value.string (S i)] 9)).kept u QA.out.symm.ne
     have RA:Hid (Apt aQ v'):=Apt.step QA.out.symm (Q1.out.alloc (Obj.cells #[Value.string (S i)] 9)) (by simpa using F)
     have RB:Hid (Below D.heap.size D Z):=(QB.out.alloc QB.out.size _).grown u G (fun g hg=>(zAo Q2.out g hg).1)
     have R2:Hid (Z.ownsRow D.heap.size 9 1 aQ (L+1) (tS S (hsL h (i+1)))):=by show Z.ownsRow _ _ _ _ _ _;rw[U.out,zIh];exact A
     clear A u F Q1 Q2 QA QB G c2
     go_wp2
     go_roundw
     case rel=>exact⟨i+1,L+1,by omega,by go_num,by rw[U.out];simp[Q.out],R1.out,R2.out,RA.out.symm,RB.out⟩
     case measure=>simp[intOf];omega
    ·have hd:decide ((0:Int)<(L:Int))=false:=by simp;omega
     have aY:(0:Int)≤(i:Int):=by omega
     go_wp2
     go_quiet (fail)
     have P1:Hid ((wr.drewN nq).ownsRow D.heap.size 3 1 (.slice a1 L a8) L (vI (hsL h i))):=zI a7.out (below_drewN (Below.refl _ _) nq)
     have P2:Hid ((wr.drewN nq).ownsRow D.heap.size 9 1 (.slice a2 L R) L (tS S (hsL h i))):=zI X.out (below_drewN (Below.refl _ _) nq)
     have PB:Hid (Below D.heap.size D (wr.drewN nq)):=below_drewN J.out nq
     obtain⟨wq,aO⟩:∃wq,wq=wr.drewN nq:=⟨_,rfl⟩
     rw[←aO]at P1 P2 PB ⊢
     clear aO a7 X J c1 c2
     have G:D.heap.size≤(wq.alloc (Obj.cells #[Value.int IntKind.i64 ((i:Nat):Int)] 3)).heap.size:=by have:=PB.out.size;simp;omega
     go_wp2_with (at_builtin;refine wpList_append_own_at _ rfl (.tmp 71) (.tmp 73) 23 rfl D.heap.size 3 cE (.int .i64 0) 1 8 Tryz.underlying23 bV cB cC cD rfl (by decide) _ L (vI (hsL h i)) rfl (P1.out.alloc _) ⟨wq.heap.size,0,none⟩ 1 1 [.int .i64 ((i:Nat):Int)] rfl rfl (cell_one_new _ _ _) (zBy _) ?kb ?kc G ?_)
     case kb=>unfold maxLen;omega
     case kc=>omega
     intro v' w' A u _ F
     have Q2:Hid (w'.ownsRow D.heap.size 9 1 (.slice a2 L R) L (tS S (hsL h i))):=(P2.out.alloc (Obj.cells #[Value.int IntKind.i64 ((i:Nat):Int)] 3)).kept u a4.out.ne
     have QA:Hid (Apt v' (.slice a2 L R)):=Apt.step a4.out (P2.out.alloc (Obj.cells #[Value.int IntKind.i64 ((i:Nat):Int)] 3)) (by simpa using F)
     have QB:Hid (Below D.heap.size D w'):=(PB.out.alloc PB.out.size _).grown u G (fun g hg=>(zAo P1.out g hg).1)
     have Q1:Hid (w'.ownsRow D.heap.size 3 1 v' (L+1) (vI (hsL h (i+1)))):=by show w'.ownsRow _ _ _ _ _ _;rw[U.out,zDg];exact A
     have c2:w'.cell? ⟨b,o1+i,none⟩=some (.string (S i)):=(QB.out.cell (p:=⟨b,o1+i,none⟩) hb).trans (HC.out i (by omega))
     clear A u F P1 P2 PB G a4
     have G:D.heap.size≤(w'.alloc (Obj.cells #[Value.string (S i)] 9)).heap.size:=by have:=QB.out.size;simp;omega
     go_wp2_with (at_builtin;refine wpList_append_own_at _ rfl (.tmp 75) (.tmp 80) 22 rfl D.heap.size 9 bE (.string ⟨#[]⟩) 1 16 Tryz.underlying22 b7 bB bC bD rfl (by decide) _ L (tS S (hsL h i)) rfl (Q2.out.alloc _) ⟨w'.heap.size,0,none⟩ 1 1 [.string (S i)] rfl rfl (cell_one_new _ _ _) (zDc _) ?kb ?kc G ?_)
     case kb=>unfold maxLen;omega
     case kc=>omega
     intro aQ Z A u _ F
     have R1:Hid (Z.ownsRow D.heap.size 3 1 v' (L+1) (vI (hsL h (i+1)))):=(Q1.out.alloc (Obj.cells #[Value.string (S i)] 9)).kept u QA.out.symm.ne
     have RA:Hid (Apt aQ v'):=Apt.step QA.out.symm (Q1.out.alloc (Obj.cells #[Value.string (S i)] 9)) (by simpa using F)
     have RB:Hid (Below D.heap.size D Z):=(QB.out.alloc QB.out.size _).grown u G (fun g hg=>(zAo Q2.out g hg).1)
     have R2:Hid (Z.ownsRow D.heap.size 9 1 aQ (L+1) (tS S (hsL h (i+1)))):=by show Z.ownsRow _ _ _ _ _ _;rw[U.out,zIh];exact A
     clear A u F Q1 Q2 QA QB G c2
     go_wp2
     go_roundw
     case rel=>exact⟨i+1,L+1,by omega,by go_num,by rw[U.out];simp[Q.out],R1.out,R2.out,RA.out.symm,RB.out⟩
     case measure=>simp[intOf];omega
   ·have hf:h i=false:=by simpa using hh
    rw[hf]at c1
    have U:Hid (hsL h (i+1)=hsL h i):=by show hsL h (i+1)=_;rw[hsL,if_neg hh]
    go_wp2
    go_roundw
    case rel=>exact⟨i+1,L,by omega,by go_num,by rw[U.out];exact Q.out,by rw[U.out];exact a7.out,by rw[U.out];exact X.out,a4.out,J.out⟩
    case measure=>simp[intOf];omega
  ·have e:i=N:=by omega
   subst e
   rcases cN.out with ⟨rfl,aH,cX,dO,aC⟩|⟨aH,L',bM,aC,rfl⟩|⟨aH,aC,rfl⟩
   ·have a9:0<L:=by rw[←Q.out];exact aC
    have cZ:(i:Int)<(k:Int)+(m:Int):=by rw[aB.out];omega
    have bW:(i:Int)<(n:Int):=by omega
    have c1:wr.cell? ⟨b2,o2+i,none⟩=some (.bool (h i)):=(J.out.cell (p:=⟨b2,o2+i,none⟩) bP).trans (bG.out i (by omega))
    rw[cX]at c1
    have c2:wr.cell? ⟨b,o1+i,none⟩=some (.string (S i)):=(J.out.cell (p:=⟨b,o1+i,none⟩) hb).trans (HC.out i (by omega))
    obtain⟨g2,aI,_,_,aL⟩:=zIC X.out Q.out a9
    subst aI
    have c3:wr.cell? ⟨g2,0,none⟩=some (.string (S (gt (hsL h i) 0))):=aL 0 a9
    have a5:=zDD h i _ (zCF (hsL h i) 0 (by rw[Q.out];exact a9))
    have aN:=HS.out (gt (hsL h i) 0) (by omega) a5.2
    have bY:(((S i).size:Int) != ((S (gt (hsL h i) 0)).size:Int))=true:=by rw[bne_iff_ne,aN];omega
    have hd:(0:Int)<(L:Int):=by omega
    have aY:(0:Int)≤(i:Int):=by omega
    clear aL a5 aN
    go_wp2
    go_quiet (fail)
    go_wp2_with fail
    refine (zHB 4 i _).mono ?_
    rintro e w2 ⟨rfl,rfl⟩
    go_wp2
    go_ret2
    exact⟨_,_,rfl,zKv D (wr.drewN nq) 4 i (below_drewN J.out nq)⟩
   ·have c8:(k:Int)+(m:Int)≤(i:Int):=by rw[aB.out];omega
    have cV:L'=L:=by rw[←bM,←aH];exact Q.out
    clear bM
    subst cV
    have cW:(L':Int)<(k:Int):=by omega
    go_wp2_with fail
    refine (zHB 14 L' _).mono ?_
    rintro e w2 ⟨rfl,rfl⟩
    go_wp2
    go_ret2
    exact⟨_,_,rfl,zKv D wr 14 L' J.out⟩
   ·have c8:(k:Int)+(m:Int)≤(i:Int):=by rw[aB.out];omega
    have dR:k≤L:=by
     have h1:=aC
     rw[zDF,List.length_take,←aH,Q.out]at h1
     omega
    have cW:(k:Int)≤(L:Int):=by omega
    obtain⟨g1,cY,bS,dB,aW⟩:=zNx a7.out Q.out (by omega)
    obtain⟨g2,aI,bT,dC,aX⟩:=zIC X.out Q.out (by omega)
    subst cY
    subst aI
    have hgt:∀j,j<k→gt (hsL h i) j=gt (knL h k n) j:=fun j hj=>by rw[zDF,zLi _ _ _ hj,aH]
    have CP:Hid (Cl wr g1 k (pI (gt (knL h k n)))):=fun j hj=>by rw[aW j (by omega),hgt j hj];rfl
    have CB:Hid (∀j,j<k→wr.cell? ⟨g2,0+j,none⟩=some (.string (S (gt (knL h k n) j)))):=fun j hj=>by rw[Nat.zero_add,aX j (by omega),hgt j hj]
    have dE:(k:Int)≤(a8:Int):=by omega
    have dF:(k:Int)≤(R:Int):=by omega
    have aE:Hid (∀j,j<k→gt (knL h k n) j<n∧h (gt (knL h k n) j)=true):=fun j hj=>zA9 h k n _ (zCF (knL h k n) j (by rw[aC];exact hj))
    obtain⟨p,hp⟩:∃p,gt (knL h k n)=p:=⟨_,rfl⟩
    rw[hp]at CP CB aE
    have HP:Hid _:=hp
    have bH:Hid (∀W x,x<n→Below wr.heap.size wr W→Calls Tryz.prog 160 #[.slice (some ⟨g1,0,none⟩) k a8,.slice (some ⟨g2,0,none⟩) k R,.int .i64 ((x:Nat):Int)] W fun e w'=>e=.returned (.string (zCz S p k c x))∧Below W.heap.size W w'):=fun W x hx hW=>
     zIu p (fun j=>S (p j)) k x g1 a8 g2 0 R c W (by omega) (by omega) (by omega) (fun j hj=>by have:=(aE.out j hj).1;omega) hc (fun j hj=>HS.out (p j) (by have:=(aE.out j hj).1;omega) (aE.out j hj).2) (Nat.lt_of_lt_of_le bS hW.size) (Cl.below CP.out hW bS) (Nat.lt_of_lt_of_le bT hW.size) (fun j hj=>(hW.cell (p:=⟨g2,0+j,none⟩) bT).trans (CB.out j hj))
    clear hp aW aX hgt CP CB aE a7 X a4 aC
    have bZ:∀x:Nat,x<n→(x:Int)<(k:Int)+(m:Int):=fun x hx=>by rw[aB.out];omega
    have cO:Hid _:=bZ
    clear bZ
    obtain⟨w3,cA⟩:∃w3,w3=wr:=⟨_,rfl⟩
    rw[←cA]at bH J ⊢
    clear cA
    go_wp2
    go_loopw [15,14] (fun jv v wq=>∃j:Nat,j≤n∧jv=.int .i64 j∧wq.ownsRow w3.heap.size 9 1 v j (tV (zCz S p k c) j)∧Below w3.heap.size w3 wq) (fun jv _ _=>n-(intOf jv).toNat)
    case atStart=>exact⟨0,by omega,rfl,World.ownsRow_nil _ _ _ _,Below.refl _ _⟩
    case round=>
     obtain⟨j,hj,rfl,aM,aJ⟩:=hrel
     obtain⟨ua,uc,hu⟩:=zAV aM
     subst hu
     have HO:Hid (wr.ownsRow w3.heap.size 9 1 (.slice ua j uc) j (tV (zCz S p k c) j)):=aM
     have HB:Hid (Below w3.heap.size w3 wr):=aJ
     clear aM aJ
     by_cases bX:j<n
     ·have dD:=cO.out j bX
      go_wp2_with fail
      refine Calls.mono (bH.out wr j bX HB.out) ?_
      rintro e w4 ⟨rfl,b6⟩
      have cQ:Hid (zCz S p k c j=zCz S p k c j):=rfl
      have aZ:Hid (w4.ownsRow w3.heap.size 9 1 (.slice ua j uc) j (tV (zCz S p k c) j)):=zI HO.out b6
      have aS:Hid (Below w3.heap.size w3 w4):=HB.out.trans (b6.mono HB.out.size)
      obtain⟨t,ht⟩:∃t,zCz S p k c j=t:=⟨_,rfl⟩
      have HT:Hid _:=ht
      rw[ht]
      clear ht cQ HO HB b6
      have G:w3.heap.size≤(w4.alloc (Obj.cells #[Value.string t] 9)).heap.size:=by have:=aS.out.size;simp;omega
      go_wp2_with (at_builtin;refine wpList_append_own_at _ rfl (.tmp 106) (.tmp 108) 22 rfl w3.heap.size 9 bE (.string ⟨#[]⟩) 1 16 Tryz.underlying22 b7 bB bC bD rfl (by decide) _ j (tV (zCz S p k c) j) rfl (aZ.out.alloc _) ⟨w4.heap.size,0,none⟩ 1 1 [.string t] rfl rfl (cell_one_new _ _ _) (zDc _) ?kb ?kc G ?_)
      case kb=>unfold maxLen;omega
      case kc=>omega
      intro v' w' A u _ F
      have bQ:Below w3.heap.size w3 w':=(aS.out.alloc aS.out.size _).grown u G (fun g hg=>(zAo aZ.out g hg).1)
      have d4:w'.ownsRow w3.heap.size 9 1 v' (j+1) (tV (zCz S p k c) (j+1)):=by rw[zKD,HT.out];exact A
      clear A u F aZ aS G
      go_wp2
      go_roundw
      case rel=>exact⟨j+1,by omega,by go_num,d4,bQ⟩
      case measure=>simp[intOf];omega
     ·have e:j=n:=by omega
      have dQ:(k:Int)+(m:Int)≤(j:Int):=by rw[aB.out];omega
      go_wp2
      go_ret2
      exact⟨_,_,rfl,rfl,by rw[HP.out,←e];exact zH9 HO.out J.out.size,J.out.trans (HB.out.mono J.out.size)⟩
end Go.Proofs.YtlopecgkiikdhaaGreatDoor
