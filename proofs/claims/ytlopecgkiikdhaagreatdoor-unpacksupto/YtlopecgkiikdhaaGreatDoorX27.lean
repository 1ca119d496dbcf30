import Derived.Test.YtlopecgkiikdhaaGreatDoorX22
import Derived.Test.YtlopecgkiikdhaaGreatDoorX26
namespace Go.Proofs.YtlopecgkiikdhaaGreatDoor
open Go.RowKit
set_option maxRecDepth 100000
set_option maxHeartbeats 1000000
def Ahd (s:RS):List UInt8:=s.text.data.toList.drop s.next
theorem zAu (t:ByteArray)(a b:Nat):(t.extract a b).data.toList=(t.data.toList.drop a).take (b-a):=by
 rw[ByteArray.data_extract,Array.toList_extract,List.extract_eq_take_drop]
theorem zLc (t:ByteArray)(a:Nat):(t.extract a t.size).data.toList=t.data.toList.drop a:=by
 rw[zAu,List.take_of_length_le]
 rw[List.length_drop]
 simp
theorem zAm {s:RS}{lo:Nat}{hi:Int}(h:(s.num lo hi).1.wrong=false):Ahd s=vi (s.num lo hi).2++Ahd (s.num lo hi).1:=by
 obtain⟨e,A⟩:=zH1 h
 rw[e]
 have u:(vrd (s.text.extract s.next s.text.size)).2≠0:=fun x=>A (.inl x)
 have j:=zMs u
 rw[zLc]at j
 show s.text.data.toList.drop s.next=_++s.text.data.toList.drop (s.next+_)
 rw[←List.drop_drop]
 exact j
theorem zBH {s:RS}{n:Nat}(h:(s.bytes n).1.wrong=false):Ahd s=(s.bytes n).2.data.toList++Ahd (s.bytes n).1:=by
 have A:=zR h
 have D:n≤s.text.size-s.next:=by
  rcases Nat.lt_or_ge (s.text.size-s.next) n with u|j
  ·unfold RS.bytes at h
   rw[A,if_neg (by simp),if_pos u]at h
   cases h
  ·exact j
 rw[zB5 A D]
 show s.text.data.toList.drop s.next=(s.text.extract s.next (s.next+n)).data.toList++s.text.data.toList.drop (s.next+n)
 rw[zAu,show s.next+n-s.next=n by omega,←List.drop_drop,List.take_append_drop]
theorem zGH {s:RS}{t:ByteArray}(h:(s.word t).wrong=false):Ahd s=t.data.toList++Ahd (s.word t):=by
 unfold RS.word at h ⊢
 by_cases e:(s.bytes t.size).2=t
 ·rw[if_pos e]at h ⊢
  have:=zBH h
  rw[e]at this
  exact this
 ·rw[if_neg e]at h
  cases h
def enL (l:List (ByteArray×Nat)):List UInt8:=l.flatMap fun x=>vi x.1.size++x.1.data.toList++vi x.2
theorem zJR (x:ByteArray×Nat)(l:List (ByteArray×Nat)):enL (x::l)=vi x.1.size++x.1.data.toList++vi x.2++enL l:=by simp[enL]
theorem zLZ (l r:List (ByteArray×Nat)):enL (l++r)=enL l++enL r:=by simp[enL]
theorem zHO {s:RS}{b:ByteArray}{l:Int}(h:(s.entry b l).1.wrong=false):Ahd s=vi (s.entry b l).2.1.size++(s.entry b l).2.1.data.toList++vi (s.entry b l).2.2++Ahd (s.entry b l).1:=by
 have u:=zAm (s:=if leT ((s.num 1 255).1.bytes (s.num 1 255).2).2 b then ((s.num 1 255).1.bytes (s.num 1 255).2).1.refuse else ((s.num 1 255).1.bytes (s.num 1 255).2).1) h
 have j:=(ze h).1
 split at j
 ·cases j
 ·rename_i hl
  rw[if_neg hl]at u
  have A:=zBH j
  have D:=zR j
  have F:=zAm D
  have G:=zBI j
  show Ahd s=vi ((s.num 1 255).1.bytes (s.num 1 255).2).2.size++((s.num 1 255).1.bytes (s.num 1 255).2).2.data.toList++vi (s.entry b l).2.2++Ahd (s.entry b l).1
  rw[G,F,A,u,←List.append_assoc,←List.append_assoc]
  have e:s.entry b l=(((((s.num 1 255).1.bytes (s.num 1 255).2).1.num 0 l).1),((s.num 1 255).1.bytes (s.num 1 255).2).2,(((s.num 1 255).1.bytes (s.num 1 255).2).1.num 0 l).2):=by
   show (((if leT ((s.num 1 255).1.bytes (s.num 1 255).2).2 b then ((s.num 1 255).1.bytes (s.num 1 255).2).1.refuse else ((s.num 1 255).1.bytes (s.num 1 255).2).1).num 0 l).1,_,((if leT ((s.num 1 255).1.bytes (s.num 1 255).2).2 b then ((s.num 1 255).1.bytes (s.num 1 255).2).1.refuse else ((s.num 1 255).1.bytes (s.num 1 255).2).1).num 0 l).2)=_
   rw[if_neg hl]
  rw[e]
theorem zFU:∀(k:Nat) {s:RS} {nm:ByteArray} {j:Int} {u:List (ByteArray×Nat)},(RS.ents k s nm j u).1.wrong=false→∃es,(RS.ents k s nm j u).2=u++es∧es.length=k∧Ahd s=enL es++Ahd (RS.ents k s nm j u).1
 |0,s,nm,j,u,_=>⟨[],by simp[RS.ents],rfl,rfl⟩
 |k+1,s,nm,j,u,h=>by
  obtain⟨es,A,D,F⟩:=zFU k (s:=(s.entry nm j).1) h
  have G:=zHO (zBV k _ _ _ _ h)
  refine⟨((s.entry nm j).2.1,(s.entry nm j).2.2)::es,?_,by simp[D],?_⟩
  ·rw[RS.ents,A,List.append_assoc];rfl
  ·rw[zJR,G,F,List.append_assoc _ (enL es) _];rfl
def zI7 (K M C V:Nat)(es:List (ByteArray×Nat)):List UInt8:=zM1.data.toList++vi K++vi M++vi C++vi V++vi es.length++enL es
theorem zJk {s:RS}(h:s.list.st.wrong=false):Ahd s=zI7 s.list.K s.list.M s.list.C s.list.V s.list.es++Ahd s.list.st:=by
 obtain⟨es,W,X,Z⟩:=zFU _ (s:=(((((s.word ⟨#[86,76,84,49]⟩).num 1 255).1.num 0 (255-(((s.word ⟨#[86,76,84,49]⟩).num 1 255).2:Int))).1.num 1 64).1.num 1 16).1.num 0 16|>.1) h
 have F:=zBV _ _ _ _ _ h
 have D:=(ze F).1
 have A:=(ze D).1
 have u:=(ze A).1
 have j:=(ze u).1
 have w0:=(ze j).1
 have U:=zAm F
 have R:=zAm D
 have Q:=zAm A
 have N:=zAm u
 have J:=zAm j
 have G:=zGH w0
 have e:s.list.es=es:=W
 unfold zI7
 rw[e,X,G,J,N,Q,R,U,Z]
 simp only[List.append_assoc]
 rfl
theorem zKI {s:RS}(h:s.told.st.wrong=false):∃(u:RS) (a:RS×ByteArray) (l:LT) (b:RS×Nat) (c:RS×ByteArray),s.word zMq=u∧u.bytes 32=a∧a.1.list=l∧l.st.num 0 ((l.V:Int)-1)=b∧b.1.bytes (l.cnt*32)=c∧b.1.wrong=false∧c.1.wrong=false∧l.cnt≤512∧s.told=⟨c.1,a.2,l.st.text.extract a.1.next l.st.next,l,b.2,c.2⟩:=by
 refine⟨_,_,_,_,_,rfl,rfl,rfl,rfl,rfl,?_⟩
 obtain⟨u,D⟩:∃x,s.word zMq=x:=⟨_,rfl⟩
 obtain⟨a,F⟩:∃x,u.bytes 32=x:=⟨_,rfl⟩
 obtain⟨l,hl⟩:∃x,a.1.list=x:=⟨_,rfl⟩
 obtain⟨b,hb⟩:∃x,l.st.num 0 ((l.V:Int)-1)=x:=⟨_,rfl⟩
 have e:s.told=if b.1.wrong then ⟨b.1,a.2,l.st.text.extract a.1.next l.st.next,l,b.2,⟨#[]⟩⟩ else ⟨((if 512<l.cnt then b.1.refuse else b.1).bytes (l.cnt*32)).1,a.2,l.st.text.extract a.1.next l.st.next,l,b.2,((if 512<l.cnt then b.1.refuse else b.1).bytes (l.cnt*32)).2⟩:=by
  rw[←hb,←hl,←F,←D]
  rfl
 rw[e]at h ⊢
 rw[D,F,hl,hb]
 by_cases j:b.1.wrong=true
 ·rw[if_pos j]at h
  rw[show (TT.mk b.1 a.2 (l.st.text.extract a.1.next l.st.next) l b.2 ⟨#[]⟩).st.wrong=b.1.wrong from rfl,j]at h
  cases h
 ·rw[if_neg j]at h ⊢
  have A:b.1.wrong=false:=by simpa using j
  by_cases G:512<l.cnt
  ·rw[if_pos G]at h
   have:=zR h
   cases this
  ·rw[if_neg G]at h ⊢
   exact⟨A,h,by omega,rfl⟩
theorem zLG {s j:RS}{x:List UInt8}(A:j.text=s.text)(D:s.next≤s.text.size)(u:j.next≤s.text.size)(h:Ahd s=x++Ahd j):j.next=s.next+x.length:=by
 have:=congrArg List.length h
 unfold Ahd at this
 rw[List.length_append,List.length_drop,List.length_drop,A]at this
 simp at this
 omega
theorem zHD {a b:ByteArray}(h:a.data.toList=b.data.toList):a=b:=ByteArray.ext (Array.toList_inj.1 h)
theorem zGB {t:ByteArray}(h:(RS.on t).told.st.wrong=false):t.data.toList=zMq.data.toList++(RS.on t).told.root.data.toList++(RS.on t).told.lst.data.toList++vi (RS.on t).told.num++(RS.on t).told.lv.data.toList++Ahd (RS.on t).told.st∧(RS.on t).told.lst.data.toList=zI7 (RS.on t).told.L.K (RS.on t).told.L.M (RS.on t).told.L.C (RS.on t).told.L.V (RS.on t).told.L.es∧(RS.on t).told.root.size=32:=by
 obtain⟨N,a,l,b,c,X,J,hl,hb,hc,u,G,Z,e⟩:=zKI h
 rw[e]
 have d4:Ahd b.1=c.2.data.toList++Ahd c.1:=by rw[←hc]at G ⊢;exact zBH G
 have d3:Ahd l.st=vi b.2++Ahd b.1:=by rw[←hb]at u ⊢;exact zAm u
 have A:l.st.wrong=false:=by rw[←hb]at u;exact (ze u).1
 have Q:Ahd a.1=zI7 l.K l.M l.C l.V l.es++Ahd l.st:=by rw[←hl]at A ⊢;exact zJk A
 have j:a.1.wrong=false:=by rw[←hl]at A;exact (zCK A).1
 have d1:Ahd N=a.2.data.toList++Ahd a.1:=by rw[←J]at j ⊢;exact zBH j
 have F:N.wrong=false:=by rw[←J]at j;exact zR j
 have d0:Ahd (RS.on t)=zMq.data.toList++Ahd N:=by rw[←X]at F ⊢;exact zGH F
 have U:a.2.size=32:=by rw[←J]at j ⊢;exact zBI j
 have n0:Nt N:=by rw[←X];exact zDj (Nat.zero_le _) _
 have na:Nt a.1:=by rw[←J];exact zAt n0 _
 have nl:Nt l.st:=by rw[←hl];exact zEv na
 have W:l.st.text=a.1.text:=by rw[←hl];exact (zAC a.1).1
 have R:=zLG W na (by rw[←W];exact nl) Q
 have D:(l.st.text.extract a.1.next l.st.next).data.toList=zI7 l.K l.M l.C l.V l.es:=by
  rw[zAu,W,R,show a.1.next+(zI7 l.K l.M l.C l.V l.es).length -a.1.next=(zI7 l.K l.M l.C l.V l.es).length by omega]
  have:a.1.text.data.toList.drop a.1.next=zI7 l.K l.M l.C l.V l.es++Ahd l.st:=Q
  rw[this,List.take_left]
 refine⟨?_,D,U⟩
 show t.data.toList=zMq.data.toList++a.2.data.toList++(l.st.text.extract a.1.next l.st.next).data.toList++vi b.2++c.2.data.toList++Ahd c.1
 rw[D]
 have:t.data.toList=Ahd (RS.on t):=rfl
 rw[this,d0,d1,Q,d3,d4]
 simp only[List.append_assoc]
set_option maxHeartbeats 4000000
def nmE (es:List (ByteArray×Nat))(j:Nat):ByteArray:=((es[j]?).getD (⟨#[]⟩,0)).1
def lnE (es:List (ByteArray×Nat))(j:Nat):Nat:=((es[j]?).getD (⟨#[]⟩,0)).2
theorem zHN:∀(es:List (ByteArray×Nat)) (j:Nat),j<es.length→(enV es)[j*2]? =some (.string (nmE es j))∧(enV es)[j*2+1]? =some (.int .i64 (lnE es j))
 |[],j,h=>by simp at h
 |x::r,0,_=>by simp[enV,nmE,lnE]
 |x::r,j+1,h=>by
  have A:=zHN r j (by simpa using h)
  have e:enV (x::r)=.string x.1:: .int .i64 x.2::enV r:=by simp[enV]
  have u:(j+1)*2=j*2+1+1:=by omega
  rw[e,u]
  simp only[List.getElem?_cons_succ]
  exact A
theorem zd {w:World}{B u F:Nat}{A:Option Addr}{es:List (ByteArray×Nat)}(U:u=es.length)(h:w.ownsRow B 131 2 (.slice A u F) u (enV es)):
 ∀j,j<u→∃b,A=some ⟨b,0,none⟩∧b<w.heap.size∧w.cell? ⟨b,j*2,none⟩=some (.string (nmE es j))∧w.cell? ⟨b,j*2+1,none⟩=some (.int .i64 (lnE es j)):=by
 intro j R
 rcases h.2 with ⟨_,D⟩|⟨g,G,cur,Q,_,N,_⟩
 ·omega
 ·cases Q
  obtain⟨J,D⟩:=zHN es j (by omega)
  have c1:=h.cells (g:=g) rfl _ _ J
  have c2:=h.cells (g:=g) rfl _ _ D
  rw[Addr.add_lit]at c1 c2
  exact⟨g,rfl,(Array.getElem?_eq_some_iff.1 N).1,by simpa using c1,by simpa using c2⟩
theorem zEA {es:List (ByteArray×Nat)}(h:∀x∈es,x.1.size≤255)(j:Nat):(nmE es j).size≤1000:=by
 unfold nmE
 cases hj:es[j]? with
 |none=>decide
 |some x=>
  have:=h x (List.mem_of_getElem? hj)
  show x.1.size≤1000
  omega
theorem zFm:∀(es:List (ByteArray×Nat)) (x:ByteArray×Nat),x∈es→x.2≤zM es
 |[],x,h=>by cases h
 |y::r,x,h=>by
  have e:zM (y::r)=y.2+zM r:=by simp[zM]
  rcases List.mem_cons.1 h with rfl|h
  ·omega
  ·have:=zFm r x h
   omega
theorem zD6 {es:List (ByteArray×Nat)}(h:zM es≤4096)(j:Nat):lnE es j≤100000:=by
 unfold lnE
 cases hj:es[j]? with
 |none=>decide
 |some x=>
  have:=zFm es x (List.mem_of_getElem? hj)
  show x.2≤100000
  omega
theorem zFl (h:List UInt8)(es:List (ByteArray×Nat)):∀j,j≤es.length→zCj h (nmE es) (lnE es) j=h++enL (es.take j)
 |0,_=>by simp[zCj,enL]
 |j+1,hj=>by
  have u:es[j]? =some (es[j]'(by omega)):=List.getElem?_eq_getElem (by omega)
  have A:es.take (j+1)=es.take j++[es[j]'(by omega)]:=by rw[List.take_add_one,u];rfl
  have D:nmE es j=(es[j]'(by omega)).1:=by unfold nmE;rw[u];rfl
  have F:lnE es j=(es[j]'(by omega)).2:=by unfold lnE;rw[u];rfl
  rw[zCj,zFl h es j (by omega),A,zLZ,D,F,zCf,zCf]
  simp[enL]
theorem zD7 (K M C V:Nat)(es:List (ByteArray×Nat)):(zA1 K M C V es.length (nmE es) (lnE es)).data.toList=zI7 K M C V es:=by
 show (zCj (zCh (zEY K M C V es.length) 5) (nmE es) (lnE es) es.length)=_
 have:=zFl (zCh (zEY K M C V es.length) 5) es es.length (Nat.le_refl _)
 rw[List.take_length]at this
 rw[this]
 unfold zI7
 congr 1
 simp[zCh,zEY,zCf]
theorem zDi {kt:Nat→Int}{T:TT}{bl:Nat→ByteArray}{s:Nat}(h:stF kt T bl s=0):(∀i,i<T.n→zAG kt T.L.C T.lv (s*T.n+i) (stM kt T bl s i)=true∧(stH kt T bl s i=true→stM kt T bl s i=stS T bl s i))∧(tz (tlT (stM kt T bl s) T.L.K T.L.C s (zM T.L.es))).size=0:=by
 unfold stF zEl at h
 split at h
 ·cases h
 ·split at h
  ·cases h
  ·rename_i hf
   have j:frg kt T.L.K T.L.M T.L.C T.lv s (zM T.L.es) (stS T bl s) (stH kt T bl s) (stM kt T bl s)=false:=Bool.eq_false_iff.2 hf
   unfold frg at j
   split at j
   ·rename_i ha
    refine⟨fun i hi=> ?_,by simpa using j⟩
    have:=ha i hi
    unfold okI at this
    rw[Bool.and_eq_true]at this
    refine⟨this.1,fun A=> ?_⟩
    have u:=this.2
    rw[A]at u
    simpa using u
   ·cases j
theorem zHE {kt:Nat→Int}{T:TT}{bl:Nat→ByteArray}{dn:Nat→Bool}(u:0<T.n)(hd:∀s,s<T.L.ns→dn s=true)(j:∀s,s<T.L.ns→stF kt T bl s=0){x:Nat}(A:x<T.L.cnt):blD kt T bl dn x=stM kt T bl (x/T.n) (x%T.n)∧x/T.n<T.L.ns:=by
 have hs:x/T.n<T.L.ns:=by
  rw[Nat.div_lt_iff_lt_mul u]
  exact A
 refine⟨?_,hs⟩
 unfold blD
 rw[if_pos ⟨hd _ hs,j _ hs⟩]
def TT.ls (T:TT):ByteArray:=zA1 T.L.K T.L.M T.L.C T.L.V T.L.es.length (nmE T.L.es) (lnE T.L.es)
def reV (kt:Nat→Int)(T:TT)(Bk:Nat→ByteArray):Nat→ByteArray:=
 zIy (ofT kt) (zAX (ofT kt) T.ls T.L.cnt fun i=>za (ofT kt) (Bk i)) T.ls T.L.cnt (fun i=>za (ofT kt) (Bk i)) Bk T.L.V
def zOk (kt:Nat→Int)(B k g p q f:Nat)(T:TT)(un:Value)(ul:List Nat)(rd:Nat→Bool)(bl:Nat→ByteArray)(dn:Nat→Bool)(w:World)(e:Ending)(w':World):Prop:=
 ∃(zs':Nat→Nat) (bd':Nat→Value) (gv:Nat),e=.returned (.tuple #[.slice (some ⟨gv,0,none⟩) T.L.V T.L.V,.nilIface])∧w.heap.size≤gv∧Rw w' gv T.L.V 9 (tX (reV kt T (blD kt T bl (dnS dn T.L.ns))))∧VS kt B k g p q f T un ul rd bl (dnS dn T.L.ns) zs' bd' w'∧Fr (fun j=>j=q∨j=f) w w'
theorem zIO (kt:Nat→Int)(B k g p q f:Nat)(T:TT)(un:Value)(ul:List Nat)(rd:Nat→Bool)(bl:Nat→ByteArray)(dn:Nat→Bool)(zs:Nat→Nat)(bd:Nat→Value)(w:World)(h:VS kt B k g p q f T un ul rd bl dn zs bd w)(W:zt T)(Q:T.L.es.length≤16∧zM T.L.es≤4096)(aT:∀x∈T.L.es,x.1.size≤255)(hG:Gd kt w)(hB:B≤w.heap.size)(ha:∀s,s<T.L.ns→stF kt T bl s=0):
 Calls Tryz.prog 90 #[.pointer (some ⟨k,0,none⟩)] w fun e w'=>zOk kt B k g p q f T un ul rd bl dn w e w':=by
 have H:Hid _:=h
 obtain⟨ns,F⟩:∃x,T.L.ns=x:=⟨_,rfl⟩
 have a4:w.cell? ⟨k,4,none⟩=some (.slice (some ⟨f,0,none⟩) ns ns):=by rw[←F];exact cell_of_row _ _ _ _ 114 _ h.row
 have aG:0<T.n:=by have:=W.k1;unfold TT.n;omega
 have cI:ns*T.n≤512:=by rw[←F];exact W.cnt
 have bV:ns≤512:=by have:ns*1≤ns*T.n:=Nat.mul_le_mul_left ns aG;omega
 have aL:Hid _:=F
 have HA:Hid _:=ha
 have aN:Hid (∀(X:World) (A:Nat→Nat) (u:Nat→Value),VS kt B k g p q f T un ul rd bl (dnS dn ns) A u X→Gd kt X→∀G J,X.cell? ⟨g,6,none⟩=some (.slice G T.L.es.length J)→Calls Tryz.prog 126 #[.agg #[.int .i64 T.L.K,.int .i64 T.L.M,.int .i64 T.L.C,.int .i64 T.L.V],.slice G T.L.es.length J,.slice (some ⟨q,0,none⟩) T.L.cnt T.L.cnt] X fun e w'=>∃D s,e=.returned (.tuple #[.slice (some ⟨D,0,none⟩) T.L.V T.L.V,.string s])∧X.heap.size≤D∧Rw w' D T.L.V 9 (tX (reV kt T (blD kt T bl (dnS dn ns))))∧Below X.heap.size X w'):=fun X A u hX aP G J aR=>by
  have:=W.km;have:=W.c64;have:=W.v16;have:=W.v1;have:=W.cnt;have:=Q.1
  obtain⟨bF,bQ,num,first,vB,hg,R⟩:=hX.hd
  have bM:X.cell? ⟨g,6,none⟩=some (.slice bF T.L.es.length bQ):=cell_of_row _ _ _ _ 157 _ hg
  rw[bM]at aR
  cases aR
  have bL:∀i,i<T.L.cnt→(blD kt T bl (dnS dn ns) i).size≤1000:=fun i hi=>by
   obtain⟨e1,e2⟩:=zHE (kt:=kt) (bl:=bl) (dn:=dnS dn ns) aG (fun s hs=>by rw[F]at hs;simp[dnS,hs]) ha hi
   rw[e1,zAK ((zDi (ha _ e2)).1 _ (Nat.mod_lt _ aG)).1]
   omega
  rcases Nat.eq_zero_or_pos T.L.cnt with h0|h0
  ·refine Calls.mono (by rw[h0];exact zEV kt T.L.K T.L.M T.L.C T.L.V T.L.es.length J q G (nmE T.L.es) (lnE T.L.es) (blD kt T bl (dnS dn ns)) X (by omega) (by omega) (by omega) (by omega) (by omega) (by omega) (zEA aT) (zD6 Q.2) (zd rfl R) aP) ?_
   rintro e w' ⟨D,he,h1,h2,h3⟩
   refine⟨D,_,he,h1,?_,h3⟩
   unfold reV TT.ls
   rw[h0]
   exact h2
  ·refine Calls.mono (zEU kt T.L.K T.L.M T.L.C T.L.V T.L.es.length J T.L.cnt T.L.cnt q G (nmE T.L.es) (lnE T.L.es) (blD kt T bl (dnS dn ns)) X (by omega) (by omega) (by omega) (by omega) (by omega) (by omega) (zEA aT) (zD6 Q.2) (zd rfl R) h0 (by omega) (Nat.le_refl _) bL (Array.getElem?_eq_some_iff.1 hX.blR).1 (fun i hi=>hX.blR.cell i hi) aP) ?_
   rintro e w' ⟨D,he,h1,h2,h3⟩
   exact⟨D,_,he,h1,h2,h3⟩
 clear h
 go_enter Tryz.func90,Tryz.ntmps90
 go_wp2_with fail
 clear a4
 go_loopw [14] (fun sv wr=>∃(s:Nat) (A:Nat→Nat) (u:Nat→Value),s≤ns∧sv=.int .i64 s∧VS kt B k g p q f T un ul rd bl (dnS dn s) A u wr∧Fr (fun j=>j=q∨j=f) w wr) (fun sv _=>ns-(intOf sv).toNat)
 case atStart=>exact⟨0,zs,bd,by omega,rfl,by rw[zLX];exact H.out,Fr.refl _ _⟩
 case round=>
  obtain⟨s,A,u,cJ,rfl,hJ,hF⟩:=hrel
  have HJ:Hid _:=hJ
  have HF:Hid _:=hF
  by_cases aF:s<ns
  ·have bD:Hid _:=zAw kt B k g p q f s T un ul rd bl (dnS dn s) A u wr hJ W Q (H.out.gd hG hF) (Nat.le_trans hB hF.size) (by rw[F];exact aF)
   have cH:(s:Int)<(ns:Int):=by omega
   clear hJ hF
   go_wp2_with fail
   refine Calls.mono bD.out ?_
   rintro e w1 ⟨aV,bG,rfl,U,aO,_,_⟩
   rw[zC8]at U
   have bO:dnS dn (s+1) s=true:=by simp[dnS]
   obtain⟨zr,_⟩:=U.fn s (by rw[F];exact aF) bO
   rw[ha s (by rw[F];exact aF)]at zr
   obtain⟨z,hz⟩:∃z,aV s=z:=⟨_,rfl⟩
   rw[hz]at zr ⊢
   have d1:w1.cell? ⟨z,1,none⟩=some (.int .i64 0):=cell_of_row _ _ _ _ 216 _ zr
   have bE:Hid _:=U
   have b9:Hid _:=HF.out.trans' aO
   clear U aO zr hz
   go_wp2_with fail
   go_roundw
   case rel=>exact⟨s+1,aV,bG,by omega,by go_num,bE.out,b9.out⟩
   case measure=>simp[intOf];omega
  ·have es:s=ns:=by omega
   subst es
   obtain⟨G,J,num,first,vB,hg,R⟩:=hJ.hd
   have a1:Hid (∀X:World,Below wr.heap.size wr X→Calls Tryz.prog 126 #[.agg #[.int .i64 T.L.K,.int .i64 T.L.M,.int .i64 T.L.C,.int .i64 T.L.V],.slice G T.L.es.length J,.slice (some ⟨q,0,none⟩) T.L.cnt T.L.cnt] X fun e w'=>∃D s',e=.returned (.tuple #[.slice (some ⟨D,0,none⟩) T.L.V T.L.V,.string s'])∧X.heap.size≤D∧Rw w' D T.L.V 9 (tX (reV kt T (blD kt T bl (dnS dn s))))∧Below X.heap.size X w'):=fun X hX=>
    aN.out X A u (hJ.below hX) ((H.out.gd hG hF).below hX) G J (cell_of_row _ _ _ _ 157 _ ((hX.block g (Array.getElem?_eq_some_iff.1 hg).1).trans hg))
   obtain⟨K,a8⟩:∃x,T.L.K=x:=⟨_,rfl⟩
   obtain⟨M,a9⟩:∃x,T.L.M=x:=⟨_,rfl⟩
   obtain⟨C,a6⟩:∃x,T.L.C=x:=⟨_,rfl⟩
   obtain⟨V,N⟩:∃x,T.L.V=x:=⟨_,rfl⟩
   obtain⟨cn,aC⟩:∃x,T.L.cnt=x:=⟨_,rfl⟩
   obtain⟨ne,aH⟩:∃x,T.L.es.length=x:=⟨_,rfl⟩
   have aK:Hid (∀X:World,Below wr.heap.size wr X→X.cell? ⟨k,0,none⟩=some (.pointer (some ⟨g,0,none⟩))∧X.cell? ⟨k,3,none⟩=some (.slice (some ⟨q,0,none⟩) cn cn)∧X.cell? ⟨g,2,none⟩=some (.int .i64 K)∧X.cell? ⟨g,3,none⟩=some (.int .i64 M)∧X.cell? ⟨g,4,none⟩=some (.int .i64 C)∧X.cell? ⟨g,5,none⟩=some (.int .i64 V)∧X.cell? ⟨g,6,none⟩=some (.slice G ne J)):=fun X hX=>by
    have e1:=(hX.block g (Array.getElem?_eq_some_iff.1 hg).1).trans hg
    have e2:=(hJ.below hX).row
    rw[←a8,←a9,←a6,←N,←aC,←aH]
    exact⟨cell_of_row _ _ _ _ 114 _ e2,cell_of_row _ _ _ _ 114 _ e2,cell_of_row _ _ _ _ 157 _ e1,cell_of_row _ _ _ _ 157 _ e1,cell_of_row _ _ _ _ 157 _ e1,cell_of_row _ _ _ _ 157 _ e1,cell_of_row _ _ _ _ 157 _ e1⟩
   rw[a8,a9,a6,N,aC,aH]at a1
   obtain⟨b0,b3,b2,b4,b5,b6,b7⟩:=aK.out wr (Below.refl _ _)
   obtain⟨RV,aA⟩:∃x,reV kt T (blD kt T bl (dnS dn s))=x:=⟨_,rfl⟩
   rw[aA]at a1
   have bB:Hid _:=aA
   have aM:Hid _:=N
   clear hJ hF hg R a8 a9 a6 N aC aH aA
   go_wp2_with fail
   go_region_held3 (fun X=>X.cell? ⟨k,0,none⟩=some (.pointer (some ⟨g,0,none⟩))∧X.cell? ⟨k,3,none⟩=some (.slice (some ⟨q,0,none⟩) cn cn)∧X.cell? ⟨g,2,none⟩=some (.int .i64 K)∧X.cell? ⟨g,3,none⟩=some (.int .i64 M)∧X.cell? ⟨g,4,none⟩=some (.int .i64 C)∧X.cell? ⟨g,5,none⟩=some (.int .i64 V)∧X.cell? ⟨g,6,none⟩=some (.slice G ne J)) (go_keep) ((go_at_call 126;refine Calls.mono (a1.out _ (by first|exact Below.refl _ _|exact (Below.refl _ _).drew)) ?_;rintro e w1 ⟨D,s',rfl,aS,aQ,aB⟩;have a5:Below wr.heap.size wr w1:=(by first|exact aB|exact ((Below.refl _ _).drew).trans aB);obtain⟨q0,q3,q2,q4,q5,q6,q7⟩:=aK.out w1 a5;have Z:wr.heap.size≤D:=aS))
   have aJ:Hid _:=a5
   have bC:Hid (Rw w1 D V 9 (tX RV)):=aQ
   have bA:Hid _:=Z
   clear a5 aB aQ aS Z q0 q2 q3 q4 q5 q6 q7 b0 b2 b3 b4 b5 b6 b7
   go_wp2_with fail
   go_ret2
   refine⟨A,u,D,by rw[aM.out];rfl,Nat.le_trans HF.out.size bA.out,?_,?_,HF.out.thenBelow aJ.out⟩
   ·rw[aL.out,bB.out,aM.out];exact bC.out
   ·rw[aL.out];exact HJ.out.below aJ.out
theorem zGt (rt:ByteArray)(v:Value)(w:World)(Q:rt.size≠0)(D:rt.size≠32):Calls Tryz.prog 16 #[v,.string rt] w fun e w'=>∃z,e=.returned (.tuple #[.pointer none,.iface 150 (.pointer (some ⟨z,0,none⟩))])∧w'.heap[z]? =some (.cells #[.int .i64 9,.int .i64 0,.nilIface] 152 (0,0))∧Below w.heap.size w w':=by
 have F:((rt.size:Int) != 0)=true:=by rw[bne_iff_ne];omega
 have G:((rt.size:Int) != 32)=true:=by rw[bne_iff_ne];omega
 have J:¬(rt.size:Int)=0:=by omega
 have N:¬(rt.size:Int)=32:=by omega
 go_enter Tryz.func16,Tryz.ntmps16
 go_wp2_with fail
 refine Calls.mono (zAk 9 0 w) ?_
 rintro e R ⟨z,rfl,u,j⟩
 have A:Hid _:=u
 have HB:Hid _:=j
 clear u j
 go_wp2_with fail
 go_ret2
 exact⟨z,rfl,A.out,HB.out⟩
theorem zIe (rt:ByteArray)(w:World)(G:rt.size=0∨rt.size=32):Calls Tryz.prog 16 #[.slice none 0 0,.string rt] w fun e w'=>∃v,e=.returned (.tuple #[.pointer none,v])∧zKP 11 0 (.returned v) w'∧Below w.heap.size w w':=by
 obtain⟨k,hk⟩:∃k,w.heap.size=k:=⟨_,rfl⟩
 obtain⟨X,hX⟩:∃X,w.alloc (.cells (stC (.pointer none) (.slice none 0 0) (.slice none 0 0) (.slice none 0 0) (.slice none 0 0)) 114)=X:=⟨_,rfl⟩
 have A:Below w.heap.size w X:=by rw[←hX];exact (Below.refl _ _).alloc (Nat.le_refl _) _
 have N:X.heap[k]? =some (.cells (stC (.pointer none) (.slice none 0 0) (.slice none 0 0) (.slice none 0 0) (.slice none 0 0)) 114 (0,0)):=by rw[←hX,←hk];exact heap_alloc_new _ _
 have c0:X.cell? ⟨k,0,none⟩=some (.pointer none):=cell_of_row _ _ _ _ 114 _ N
 have U:w.alloc (.cells #[.pointer none,.slice none 0 0,.slice none 0 0,.slice none 0 0,.slice none 0 0] 114)=X:=hX
 have j:Hid _:=A
 have HK:Hid _:=hk
 clear A N hX
 rcases G with Z|R
 ·have Q:(rt.size:Int)=0:=by omega
  go_enter Tryz.func16,Tryz.ntmps16
  go_wp2_with fail
  refine wp_loop_rounds 1 ?_
  rw[rounds_succ]
  go_wp2_with fail
  refine Calls.mono (zBO _ X) ?_
  rintro e W ⟨⟨z,rfl,D⟩,u⟩
  have F:Hid _:=D
  have HB:Hid _:=u
  clear D u
  go_wp2_with fail
  go_ret2
  exact⟨_,rfl,⟨z,rfl,F.out⟩,j.out.trans (HB.out.mono j.out.size)⟩
 ·have J:(rt.size:Int)=32:=by omega
  go_enter Tryz.func16,Tryz.ntmps16
  go_wp2_with fail
  refine wp_loop_rounds 1 ?_
  rw[rounds_succ]
  go_wp2_with fail
  refine Calls.mono (zBO _ X) ?_
  rintro e W ⟨⟨z,rfl,D⟩,u⟩
  have F:Hid _:=D
  have HB:Hid _:=u
  clear D u
  go_wp2_with fail
  go_ret2
  exact⟨_,rfl,⟨z,rfl,F.out⟩,j.out.trans (HB.out.mono j.out.size)⟩
end Go.Proofs.YtlopecgkiikdhaaGreatDoor
namespace Go.Proofs.YtlopecgkiikdhaaGreatDoor
open Go.RowKit Go.MuLone
set_option maxRecDepth 100000
set_option maxHeartbeats 4000000
theorem VS.set {kt:Nat→Int}{B k g p q f:Nat}{T:TT}{un:Value}{ul:List Nat}{rd:Nat→Bool}{bl:Nat→ByteArray}{dn:Nat→Bool}{N:Nat→Nat}{F:Nat→Value}{w:World}{j:Nat}{Q:Array Value}{t:TypeId}(h:VS kt B k g p q f T un ul rd bl dn N F w)(G:w.heap[j]? =some (.cells Q t (0,0)))(J:t=133∨t=70)(i:Nat)(v:Value):VS kt B k g p q f T un ul rd bl dn N F (w.setCell ⟨j,i,none⟩ v):=
 h.kept (fun x c U D A=>by
  rw[zC _ _ _ _ _ (zE A G (by rcases J with e|e<;>rcases D with e'|e'|e'|e'|e'|e'|e'<;>simp[e,e']))]
  exact A) (fun x A=>by
  have R:∃cur,w.heap[x]? =some (.cells cur 3 (0,0)):=by
   rcases A with e|⟨s,hs,hd,e⟩
   ·exact zB h.unO x e
   ·exact zB (h.fn s hs hd).2 x e
  obtain⟨cur,u⟩:=R
  exact zC _ _ _ _ _ (zE u G (by rcases J with e|e<;>simp[e])))
theorem zAE {w:World}{B n j:Nat}{e t:TypeId}{size:Nat}{v u:Value}{D:List Value}{F:Array Value}(h:w.ownsRow B e size v n D)(G:w.heap[j]? =some (.cells F t (0,0)))(J:e≠t)(i:Nat):(w.setCell ⟨j,i,none⟩ u).ownsRow B e size v n D:=zD h (fun y N=>by
 obtain⟨cur,A⟩:=zB h y N
 exact zC _ _ _ _ _ (zE A G J))
theorem zEO {A w:World}{u:Nat}{S:Nat→Prop}{D:Array Value}(h:w.heap[u]? =some (.cells D 133 (0,0)))(J:A.heap.size≤u)(G:Fr S A w)(i:Nat)(v:Value):(w.setCell ⟨u,i,none⟩ v).heap[u]? =some (.cells (D.setIfInBounds i v) 133 (0,0))∧Fr S A (w.setCell ⟨u,i,none⟩ v)∧(∀(j:Nat) (c:Array Value) (t:TypeId),t≠133→w.heap[j]? =some (.cells c t (0,0))→(w.setCell ⟨u,i,none⟩ v).heap[j]? =some (.cells c t (0,0))):=
 ⟨zH _ _ _ _ _ _ _ h,G.set (.inr J) _ _,fun j c t N F=>by rw[zC _ _ _ _ _ (zE F h N)];exact F⟩
def VL (v k x:Nat)(w:World):Prop:=w.heap[v]? =some (.cells (wC (x:Int) k) 70 (0,0))
theorem VL.one {v k:Nat}{w:World}(h:VL v k 0 w):VL v k 1 (w.setCell ⟨v,0,none⟩ (.int .i32 1)):=by
 have:=zH w v 0 (.int .i32 1) _ _ _ h
 simpa[wC,VL] using this
theorem VL.zero {v k:Nat}{w:World}(h:VL v k 1 w):VL v k 0 (w.setCell ⟨v,0,none⟩ (.int .i32 0)):=by
 have:=zH w v 0 (.int .i32 0) _ _ _ h
 simpa[wC,VL] using this
def zM5 (kt:Nat→Int)(B v k g p q f:Nat)(T:TT)(un:Value)(ul:List Nat)(rd:Nat→Bool)(bl:Nat→ByteArray)(dn:Nat→Bool)(w:World)(e:Ending)(w':World):Prop:=
 ∃(zs':Nat→Nat) (bd':Nat→Value) (a b c d u:Value),e=.returned (.agg (zAc a b c d u))∧VL v k 0 w'∧VS kt B k g p q f T un ul rd bl (dnS dn T.L.ns) zs' bd' w'∧Fr (fun j=>j=q∨j=f∨j=v) w w'∧
  w'.ownsRow w.heap.size 3 1 a ul.length (unV ul)∧w'.ownsRow w.heap.size 3 1 b (abF rd T.L.V).length (unV (abF rd T.L.V))∧w'.ownsRow w.heap.size 3 1 c (baF kt T bl T.L.ns).length (unV (baF kt T bl T.L.ns))∧w'.ownsRow w.heap.size 3 1 d (fsF kt T bl 1 T.L.ns).length (unV (fsF kt T bl 1 T.L.ns))∧w'.ownsRow w.heap.size 3 1 u (fsF kt T bl 2 T.L.ns).length (unV (fsF kt T bl 2 T.L.ns))∧RpA un bd' (dnS dn T.L.ns) T.L.ns [a,b,c,d,u]
theorem zMt (kt:Nat→Int)(B v k g p q f:Nat)(T:TT)(un:Value)(ul:List Nat)(rd:Nat→Bool)(bl:Nat→ByteArray)(dn:Nat→Bool)(zs:Nat→Nat)(bd:Nat→Value)(w:World)(hv:VL v k 0 w)(h:VS kt B k g p q f T un ul rd bl dn zs bd w)(hT:zt T)(b4:T.L.es.length≤16∧zM T.L.es≤4096)(b5:ul.length≤10000000000000)(hG:Gd kt w)(hB:B≤w.heap.size)(h2:v≠3):
 Calls Tryz.prog 61 #[.pointer (some ⟨v,0,none⟩)] w fun e w'=>zM5 kt B v k g p q f T un ul rd bl dn w e w':=by
 have b7:v<w.heap.size:=(Array.getElem?_eq_some_iff.1 hv).1
 obtain⟨W,hW⟩:∃W,w.alloc (.cells zHy 133)=W:=⟨_,rfl⟩
 have G:Below w.heap.size w W:=by rw[←hW];exact (Below.refl _ _).alloc (Nat.le_refl _) _
 have aE:W.heap[w.heap.size]? =some (.cells zHy 133 (0,0)):=by rw[←hW];exact heap_alloc_new _ _
 have N:VL v k 0 W:=(G.block v b7).trans hv
 have h0:W.cell? ⟨v,0,none⟩=some (.int .i32 0):=cell_of_row _ _ _ _ 70 _ N
 have f0:W.frozen? ⟨v,0,none⟩=false:=frozen_of_row _ _ _ _ 70 N
 have HL:Hid _:=lock_free muL ⟨v,0,none⟩ W h0 f0
 obtain⟨Y,hY⟩:∃Y,W.setCell ⟨v,0,none⟩ (.int .i32 1)=Y:=⟨_,rfl⟩
 have a2:VL v k 1 Y:=by rw[←hY];exact N.one
 have X:VS kt B k g p q f T un ul rd bl dn zs bd Y:=by rw[←hY];exact (h.below G).set N (.inr rfl) _ _
 have aF:Y.heap[w.heap.size]? =some (.cells zHy 133 (0,0)):=by rw[←hY,zC _ _ _ _ _ (by omega)];exact aE
 have R:Fr (fun j=>j=q∨j=f∨j=v) w Y:=by rw[←hY];exact (Fr.below G).set (.inl (.inr (.inr rfl))) _ _
 have aB:Gd kt Y:=(hG.fr (S:=fun j=>j=v) (by rw[←hY];exact (Fr.below (S:=fun j=>j=v) G).set (.inl rfl) _ _) (fun e=>h2 e.symm))
 have aY:Hid _:=zGy kt B k g p q f T un ul rd bl dn zs bd Y X hT b4 b5 aB (Nat.le_trans hB R.size)
 have c2:Y.cell? ⟨v,2,none⟩=some (.pointer (some ⟨k,0,none⟩)):=cell_of_row _ _ _ _ 70 _ a2
 rw[hY]at HL
 have aZ:Hid (VL v k 1 Y):=a2
 have a5:Hid _:=X
 have a6:Hid _:=aF
 have aN:Hid _:=R
 have cJ:w.alloc (.cells #[.slice none 0 0,.slice none 0 0,.slice none 0 0,.slice none 0 0,.slice none 0 0] 133)=W:=hW
 have F:Hid (w.heap.size≤Y.heap.size):=R.size
 clear hv h G aE N h0 f0 hY a2 X aF R aB hW
 go_enter_defers Tryz.func61,Tryz.ntmps61
 go_wp2_with fail
 refine Calls.mono HL.out ?_
 rintro e w1 ⟨rfl,rfl⟩
 go_wp2_with fail
 refine Calls.mono aY.out ?_
 rintro e Q ⟨bF,b1,a,b,c,d,u,rfl,aD,U,o1,o2,o3,o4,o5,aC⟩
 have aU:Hid _:=aC
 clear aC
 obtain⟨xa,ya,ha⟩:=zA o1
 obtain⟨xb,yb,hb⟩:=zA o2
 obtain⟨xc,yc,hc⟩:=zA o3
 obtain⟨xd,yd,hd⟩:=zA o4
 obtain⟨xu,yu,hu⟩:=zA o5
 have cM:w.heap.size<w1.heap.size:=(Array.getElem?_eq_some_iff.1 a6.out).1
 have J:∀(j:Nat) (cs:Array Value) (t:TypeId),t≠9→t≠212→w1.heap[j]? =some (.cells cs t (0,0))→Q.heap[j]? =some (.cells cs t (0,0)):=fun j cs t h9 aA hj=>by
  rw[U.old j (Array.getElem?_eq_some_iff.1 hj).1 (fun e=>by
   rcases e with e|e
   ·exact zE hj a5.out.blR h9 e
   ·exact zE hj a5.out.fiR aA e)]
  exact hj
 have A:=J _ _ _ (by decide) (by decide) a6.out
 have aI:VL v k 1 Q:=J _ _ _ (by decide) (by decide) aZ.out
 obtain⟨r,hr⟩:∃r,w.heap.size=r:=⟨_,rfl⟩
 rw[hr]at A
 have p0:Q.cell? ⟨r,0,none⟩=some (.slice none 0 0):=cell_of_row _ _ _ _ 133 _ A
 have p1:Q.cell? ⟨r,1,none⟩=some (.slice none 0 0):=cell_of_row _ _ _ _ 133 _ A
 have p2:Q.cell? ⟨r,2,none⟩=some (.slice none 0 0):=cell_of_row _ _ _ _ 133 _ A
 have p3:Q.cell? ⟨r,3,none⟩=some (.slice none 0 0):=cell_of_row _ _ _ _ 133 _ A
 have p4:Q.cell? ⟨r,4,none⟩=some (.slice none 0 0):=cell_of_row _ _ _ _ 133 _ A
 have fz:∀j,Q.frozen? ⟨r,j,none⟩=false:=fun j=>frozen_of_row _ _ _ _ 133 A
 have aT:Hid _:=A
 have aW:Hid _:=aD
 have aX:Hid (VL v k 1 Q):=aI
 have aM:Hid _:=aN.out.trans' (U.mono (T:=fun j=>j=q∨j=f∨j=v) (fun j _ e=>by rcases e with e|e;exact .inl e;exact .inr (.inl e)))
 have aO:Hid _:=zP o1 F.out
 have aP:Hid _:=zP o2 F.out
 have aQ:Hid _:=zP o3 F.out
 have aR:Hid _:=zP o4 F.out
 have aS:Hid _:=zP o5 F.out
 have aV:Hid (w.heap.size=r):=hr
 have cN:w.heap.size≤r:=Nat.le_of_eq hr
 have cP:v<r:=by omega
 unfold zAc
 subst ha hb hc hd hu
 clear J A aD aI U o1 o2 o3 o4 o5 hr
 rw[aV.out]
 go_wp2_with fail
 obtain⟨h0,f0,k0⟩:=zEO aT.out (by omega) aM.out 0 (.slice xa ul.length ya)
 obtain⟨h1,f1,k1⟩:=zEO h0 (by omega) f0 1 (.slice xb (abF rd T.L.V).length yb)
 obtain⟨a9,f2,k2⟩:=zEO h1 (by omega) f1 2 (.slice xc (baF kt T bl T.L.ns).length yc)
 obtain⟨h3,f3,k3⟩:=zEO a9 (by omega) f2 3 (.slice xd (fsF kt T bl 1 T.L.ns).length yd)
 obtain⟨h4,f4,k4⟩:=zEO h3 (by omega) f3 4 (.slice xu (fsF kt T bl 2 T.L.ns).length yu)
 have hk:=fun (j:Nat) (c:Array Value) (t:TypeId) (ht:t≠133) hj=>k4 j c t ht (k3 j c t ht (k2 j c t ht (k1 j c t ht (k0 j c t ht hj))))
 have D:=hk _ _ _ (by decide) aX.out
 have b3:=aW.out.all hk
 have z1:=zp aO.out hk
 have z2:=zp aP.out hk
 have z3:=zp aQ.out hk
 have z4:=zp aR.out hk
 have z5:=zp aS.out hk
 clear k0 k1 k2 k3 k4 hk h0 h1 a9 h3 f0 f1 f2 f3 p0 p1 p2 p3 p4 fz
 generalize ((((Q.setCell ⟨r,0,none⟩ (.slice xa ul.length ya)).setCell ⟨r,1,none⟩ (.slice xb (abF rd T.L.V).length yb)).setCell ⟨r,2,none⟩ (.slice xc (baF kt T bl T.L.ns).length yc)).setCell ⟨r,3,none⟩ (.slice xd (fsF kt T bl 1 T.L.ns).length yd)).setCell ⟨r,4,none⟩ (.slice xu (fsF kt T bl 2 T.L.ns).length yu)=Z at*
 have aJ:VL v k 1 Z:=D
 refine leaves_cons (f:=56) (args:= #[.pointer (some ⟨v,0,none⟩)]) (by simp) (by simp[go_sem]) ?_
 refine (unlock_deferred muL ⟨v,0,none⟩ .returning Z (cell_of_row _ _ _ _ 70 _ D) (frozen_of_row _ _ _ _ 70 D)).mono ?_
 rintro e u' w3 ⟨rfl,rfl,rfl⟩
 have aG:(Z.setCell ⟨v,0,none⟩ (.int .i32 0)).heap[r]? =_:=(zC Z v 0 r _ (by omega)).trans h4
 refine⟨_,results_cell_row Tryz.results61 _ _ r 133 _ (0,0) _ rfl aG Tryz.underlying133 rfl (by kernel_rfl),bF,b1,_,_,_,_,_,rfl,aJ.zero,b3.set D (.inr rfl) _ _,f4.set (.inl (.inr (.inr rfl))) _ _,zAE z1 D (by decide) _,zAE z2 D (by decide) _,zAE z3 D (by decide) _,zAE z4 D (by decide) _,zAE z5 D (by decide) _,aU.out⟩
end Go.Proofs.YtlopecgkiikdhaaGreatDoor
namespace Go.Proofs.YtlopecgkiikdhaaGreatDoor
open Go.RowKit
set_option maxRecDepth 100000
set_option maxHeartbeats 4000000
theorem SS.vs {kt:Nat→Int}{B k g p q f:Nat}{T:TT}{un:Value}{ul:List Nat}{rd:Nat→Bool}{bl:Nat→ByteArray}{w:World}(h:SS B k g p q f T un rd bl w)(u:w.ownsRow B 3 1 un ul.length (unV ul)):VS kt B k g p q f T un ul rd bl (fun _=>false) (fun _=>0) (fun _=>.slice none 0 0) w where
 row:=h.row
 hd:=h.hd
 unO:=u
 rdR:=h.rdR
 blR:=by rw[zJE];exact h.blR
 fiR:=h.fiR.to (fun j _=>by simp[piF,fiP])
 fn:=fun s _ hd=>by cases hd
def Opn (kt:Nat→Int)(rt:ByteArray)(L:Nat→ByteArray)(n:Nat)(s:OS)(t0:ByteArray):Prop:=(rt.size=0∨rt.size=32)∧OS.run kt rt 0 (zh L n) OS.new=.ok s∧s.hd=some t0
def VNew (kt:Nat→Int)(rt:ByteArray)(L:Nat→ByteArray)(n B v:Nat)(w:World):Prop:=
 ∃s t0 k g p q f un,Opn kt rt L n s t0∧rdE kt t0=none∧B≤v∧(B≤q∧B≤f)∧VL v k 0 w∧VS kt B k g p q f (RS.on t0).told un s.un s.rd s.bl (fun _=>false) (fun _=>0) (fun _=>.slice none 0 0) w
def RawT (w:World)(a:Option Addr)(n cap:Nat)(L:Nat→ByteArray):Prop:=(a=none∧n=0∧cap=0)∨∃ad:Addr,a=some ad∧∀i,i<n→∃b off,ad=⟨b,off,none⟩∧b<w.heap.size∧w.cell? ⟨b,off+i,none⟩=some (.string (L i))
theorem zD1:(Tryz.prog.info? 9).map (fun i=>(i.zero,i.size,i.bytes))=some (some (.string ⟨#[]⟩),1,16):=by kernel_rfl
theorem zAb {w:World}{B n:Nat}{v:Value}{L:Nat→ByteArray}(h:w.ownsRow B 9 1 v n (tV L n))(F:0<n):∃g j,v=.slice (some ⟨g,0,none⟩) n j∧B≤g∧g<w.heap.size∧Cl w g n (tI L):=by
 rcases h.2 with ⟨_,D⟩|⟨g,j,cur,u,hb,A,_⟩
 ·omega
 ·refine⟨g,j,u,hb,(Array.getElem?_eq_some_iff.1 A).1,fun i hi=> ?_⟩
  have:=h.cells (g:=g) (by rw[u];rfl) i (.string (L i)) (by simp[tV,hi])
  rw[Addr.add_lit,Nat.zero_add]at this
  exact this
def stD (kt:Nat→Int)(T:TT)(bl:Nat→ByteArray)(s:Nat):ByteArray:=jT (stM kt T bl s) T.L.K
def zEi (kt:Nat→Int)(T:TT)(bl:Nat→ByteArray)(x:Nat):UInt8:=(stD kt T bl (x/(T.L.K*T.L.C))).data.toList.getD (x%(T.L.K*T.L.C)) 0
def zCZ (kt:Nat→Int)(T:TT)(bl:Nat→ByteArray)(a b:Nat):List UInt8:=(List.range (b-a)).map fun i=>zEi kt T bl (a+i)
theorem zF9 (kt:Nat→Int)(T:TT)(bl:Nat→ByteArray)(a b:Nat):(zCZ kt T bl a b).length=b-a:=by simp[zCZ]
theorem zKB (kt:Nat→Int)(T:TT)(bl:Nat→ByteArray)(a b c:Nat)(j:a≤b)(u:b≤c):zCZ kt T bl a c=zCZ kt T bl a b++zCZ kt T bl b c:=by
 unfold zCZ
 have e:c-a=(b-a)+(c-b):=by omega
 rw[e,List.range_add,List.map_append,List.map_map]
 congr 1
 apply List.map_congr_left
 intro i _
 show zEi kt T bl (a+(b-a+i))=zEi kt T bl (b+i)
 congr 1
 omega
theorem zMm {kt:Nat→Int}{T:TT}{bl:Nat→ByteArray}{s a b z:Nat}(u:T.L.K*T.L.C=z)(A:s*z≤a)(D:a≤b)(F:b≤s*z+z)(hs:(stD kt T bl s).size=z):((stD kt T bl s).extract (a-s*z) (b-s*z)).data.toList=zCZ kt T bl a b:=by
 rw[zAu]
 apply List.ext_getElem?
 intro i
 unfold zCZ
 by_cases hi:i<b-a
 ·rw[List.getElem?_take,if_pos (by omega),List.getElem?_drop,List.getElem?_map,List.getElem?_range hi]
  have j:a-s*z+i<z:=by omega
  have hd:=zBi (s:=s) (n:=z) (i:=a-s*z+i) j
  have e:s*z+(a-s*z+i)=a+i:=by omega
  rw[e]at hd
  show (stD kt T bl s).data.toList[a-s*z+i]? =some (zEi kt T bl (a+i))
  unfold zEi
  rw[u,hd.1,hd.2,List.getD_eq_getElem?_getD,List.getElem?_eq_getElem (by rw[dl];omega)]
  rfl
 ·rw[List.getElem?_take,if_neg (by omega),List.getElem?_eq_none (by simp;omega)]
theorem zCo {B b:Nat}{p:Value}{bs:List Value}{w w':World}(h:Lib.BuilderAtF 275 5 B b p bs w)(G:∀(j:Nat) (D:Array Value) (t:TypeId) (fz:Nat×Nat),t=275∨t=5→w.heap[j]? =some (.cells D t fz)→w'.heap[j]? =some (.cells D t fz)):Lib.BuilderAtF 275 5 B b p bs w':=by
 obtain⟨J,v,N,F,Q⟩:=h
 refine⟨J,v,G _ _ _ _ (.inl rfl) N,⟨F.1,?_⟩,Q⟩
 rcases F.2 with h|⟨g,A,cur,fz,W,R,U,u⟩
 ·exact .inl h
 ·exact .inr ⟨g,A,cur,fz,W,R,G _ _ _ _ (.inr rfl) U,u⟩
theorem Bld.kept {b:Nat}{l:List UInt8}{w w':World}(h:Bld b l w)(A:∀(j:Nat) (u:Array Value) (t:TypeId) (fz:Nat×Nat),t=275∨t=5→w.heap[j]? =some (.cells u t fz)→w'.heap[j]? =some (.cells u t fz)):Bld b l w':=by
 rcases h with h|h
 ·exact .inl (zCo h A)
 ·exact .inr (zCo h A)
theorem zIR {w:World}{a b:Nat}{D j:Array Value}{t A:TypeId}{fz u:Nat×Nat}(h:w.heap[a]? =some (.cells D t fz))(F:w.heap[b]? =some (.cells j A u))(G:t≠A):a≠b:=fun e=>by
 rw[e,F]at h
 simp only[Option.some.injEq,Obj.cells.injEq]at h
 exact G h.2.1.symm
theorem VS.bld {kt:Nat→Int}{B k g p q f:Nat}{T:TT}{un:Value}{ul:List Nat}{rd:Nat→Bool}{bl:Nat→ByteArray}{dn:Nat→Bool}{G:Nat→Nat}{D:Nat→Value}{w w':World}{b:Nat}{l:List UInt8}(h:VS kt B k g p q f T un ul rd bl dn G D w)(hb:Bld b l w)(F:Fr (fun j=>j=q∨j=f) w w'):Bld b l w':=
 hb.kept (fun j J t fz A u=>by
  rw[F.old j (Array.getElem?_eq_some_iff.1 u).1 (fun e=>by
   rcases e with e|e
   ·exact zIR u h.blR (by rcases A with e|e<;>simp[e]) e
   ·exact zIR u h.fiR (by rcases A with e|e<;>simp[e]) e)]
  exact u)
theorem VS.oth {kt:Nat→Int}{B k g p q f:Nat}{T:TT}{un:Value}{ul:List Nat}{rd:Nat→Bool}{bl:Nat→ByteArray}{dn:Nat→Bool}{N:Nat→Nat}{F:Nat→Value}{w w':World}{b:Nat}{D:Array Value}(h:VS kt B k g p q f T un ul rd bl dn N F w)(hb:w.heap[b]? =some (.cells D 275 (0,0)))(G:Oth b w w'):VS kt B k g p q f T un ul rd bl dn N F w':=
 h.kept (fun j R t J A=>G.row A (zE A hb (by rcases J with e|e|e|e|e|e|e<;>simp[e])) (by rcases J with e|e|e|e|e|e|e<;>simp[e])) (fun j A=>by
  have Q:∃cur,w.heap[j]? =some (.cells cur 3 (0,0)):=by
   rcases A with e|⟨s,hs,hd,e⟩
   ·exact zB h.unO j e
   ·exact zB (h.fn s hs hd).2 j e
  obtain⟨cur,u⟩:=Q
  rw[G.row u (zE u hb (by decide)) (by decide),u])
theorem Bld.row {b:Nat}{l:List UInt8}{w:World}(h:Bld b l w):∃u,w.heap[b]? =some (.cells u 275 (0,0)):=by
 rcases h with ⟨_,v,j,_⟩|⟨_,v,j,_⟩
 ·exact⟨_,j⟩
 ·exact⟨_,j⟩
end Go.Proofs.YtlopecgkiikdhaaGreatDoor
