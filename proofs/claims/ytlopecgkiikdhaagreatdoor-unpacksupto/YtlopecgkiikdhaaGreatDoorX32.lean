import Derived.Test.YtlopecgkiikdhaaGreatDoorX29
import Derived.Test.YtlopecgkiikdhaaGreatDoorX31
namespace Go.Proofs.YtlopecgkiikdhaaGreatDoor
open Go.RowKit
set_option maxRecDepth 100000
set_option maxHeartbeats 1000000
theorem zMu (S:Nat→ByteArray)(k m c i:Nat)(hi:i<k+m):(whl S k m c)[i]? =some (.string (zOo S k c i)):=by
 unfold whl zOo
 by_cases h:i<k
 ·rw[List.getElem?_append_left (by rw[zIi];exact h),if_pos h]
  simp[tV,h]
 ·rw[List.getElem?_append_right (by rw[zIi];omega),if_neg h,zIi]
  simp[tV,show i-k<m by omega]
theorem zAa (t:ByteArray)(z K M C:Nat):∀n,(zM0 t z K M C n).length=n*(K+M)
 |0=>by simp[zM0]
 |n+1=>by rw[zM0,List.length_append,zAa t z K M C n,zMv,Nat.succ_mul]
theorem zJG (t:ByteArray)(z K M C:Nat):∀n st i,st<n→i<K+M→(zM0 t z K M C n)[st*(K+M)+i]? =some (.string (zOo (dat t z C st) K C i))
 |0,st,i,h,_=>by omega
 |n+1,st,i,h,hi=>by
  rw[zM0]
  by_cases e:st=n
  ·subst e
   rw[List.getElem?_append_right (by rw[zAa];omega),zAa,Nat.add_sub_cancel_left]
   exact zMu _ _ _ _ _ hi
  ·have j:(st+1)*(K+M)≤n*(K+M):=Nat.mul_le_mul_right _ (by omega)
   rw[Nat.succ_mul]at j
   rw[List.getElem?_append_left (by rw[zAa];omega)]
   exact zJG t z K M C n st i (by omega) hi
theorem zFe (F:Nat→ByteArray):∀n i,i<n→∃r,jL F n=jL F i++(F i).data.toList++r
 |0,i,h=>by omega
 |n+1,i,h=>by
  have e:jL F (n+1)=jL F n++(F n).data.toList:=by simp[jL,List.range_succ]
  by_cases j:i=n
  ·subst j;exact⟨[],by rw[e,List.append_nil]⟩
  ·obtain⟨r,u⟩:=zFe F n i (by omega)
   exact⟨r++(F n).data.toList,by rw[e,u];simp only[List.append_assoc]⟩
theorem zLd (t:ByteArray)(a b i:Nat)(hi:i<b-a):(t.extract a b).data.toList.getD i 0=t.data.toList.getD (a+i) 0:=by
 rw[zAu,List.getD_eq_getElem?_getD,List.getD_eq_getElem?_getD,List.getElem?_take,if_pos hi,List.getElem?_drop]
theorem zDB {t:ByteArray}{j:Nat}(h:j<t.size):t[j]=t.data.toList.getD j 0:=by
 rw[List.getD_eq_getElem?_getD,List.getElem?_eq_getElem (by rw[dl];exact h)]
 rfl
set_option maxHeartbeats 4000000
theorem zIp {w:World}{B:Nat}{a:Option Addr}{n c:Nat}{l:List Nat}(h:w.ownsRow B 3 1 (.slice a n c) n (unV l))(G:0<n):∃g,a=some ⟨g,0,none⟩∧B≤g∧∀i (hi:i<l.length),w.cell? ⟨g,i,none⟩=some (.int .i64 (l[i]:Nat)):=by
 rcases h.2 with ⟨_,D⟩|⟨g,j,cur,A,u,F,_⟩
 ·omega
 ·cases A
  refine⟨g,rfl,u,fun i hi=> ?_⟩
  have:=h.cells (g:=g) rfl i _ (show (unV l)[i]? =some (.int .i64 (l[i]:Nat)) by simp[unV,hi])
  rw[Addr.add_lit,Nat.zero_add]at this
  exact this
def IR (w:World)(a:Option Addr)(l:List Nat):Prop:=∀i,i<l.length→∃g,a=some ⟨g,0,none⟩∧w.cell? ⟨g,i,none⟩=some (.int .i64 (l.getD i 0:Nat))
theorem zEH {w:World}{B:Nat}{a:Option Addr}{n c:Nat}{l:List Nat}(h:w.ownsRow B 3 1 (.slice a n c) n (unV l))(u:n=l.length):IR w a l:=fun i hi=>by
 obtain⟨g,e,_,j⟩:=zIp h (by omega)
 refine⟨g,e,?_⟩
 rw[j i hi,List.getD_eq_getElem?_getD,List.getElem?_eq_getElem hi]
 rfl
def zDw (kt:Nat→Int)(T:TT)(bl:Nat→ByteArray)(j:Nat):Bool:=(List.range (lnE T.L.es j)).all (fun i=>decide (stF kt T bl ((zM (T.L.es.take j)+i)/(T.L.K*T.L.C))=0))
theorem zJV {kt:Nat→Int}{T:TT}{bl:Nat→ByteArray}{j:Nat}(h:∀x,zM (T.L.es.take j)≤x→x<zM (T.L.es.take j)+lnE T.L.es j→stF kt T bl (x/(T.L.K*T.L.C))=0):zDw kt T bl j=true:=by
 unfold zDw
 rw[List.all_eq_true]
 exact fun i hi=>decide_eq_true (h _ (by omega) (by have:=List.mem_range.1 hi;omega))
theorem zLe {kt:Nat→Int}{T:TT}{bl:Nat→ByteArray}{j:Nat}(h:∃x,zM (T.L.es.take j)≤x∧x<zM (T.L.es.take j)+lnE T.L.es j∧stF kt T bl (x/(T.L.K*T.L.C))≠0):zDw kt T bl j=false:=by
 obtain⟨x,A,D,u⟩:=h
 unfold zDw
 rw[List.all_eq_false]
 exact⟨x-zM (T.L.es.take j),List.mem_range.2 (by omega),by rw[show zM (T.L.es.take j)+(x-zM (T.L.es.take j))=x by omega,decide_eq_false u];simp⟩
def zEa (kt:Nat→Int)(T:TT)(bl:Nat→ByteArray)(n:Nat):List Ob:=((List.range n).filter (fun j=>zDw kt T bl j)).map (unO kt T bl)
def zA5 (kt:Nat→Int)(T:TT)(bl:Nat→ByteArray)(n:Nat):List ByteArray:=((List.range n).filter (fun j=> !zDw kt T bl j)).map (nmE T.L.es)
theorem zFr {kt:Nat→Int}{T:TT}{bl:Nat→ByteArray}{n:Nat}(h:zDw kt T bl n=true):zEa kt T bl (n+1)=zEa kt T bl n++[unO kt T bl n]∧zA5 kt T bl (n+1)=zA5 kt T bl n:=by
 unfold zEa zA5
 rw[List.range_succ,List.filter_append,List.filter_append]
 simp[h]
theorem zH7 {kt:Nat→Int}{T:TT}{bl:Nat→ByteArray}{n:Nat}(h:zDw kt T bl n=false):zEa kt T bl (n+1)=zEa kt T bl n∧zA5 kt T bl (n+1)=zA5 kt T bl n++[nmE T.L.es n]:=by
 unfold zEa zA5
 rw[List.range_succ,List.filter_append,List.filter_append]
 simp[h]
theorem zEE (F:Nat→Ob)(n:Nat)(x:Ob):zEZ (zIs F n x) (n+1)=zEZ F n++[x]:=by
 unfold zEZ
 rw[List.range_succ,List.map_append]
 congr 1
 ·apply List.map_congr_left
  intro i hi
  show (if i=n then x else F i)=F i
  rw[if_neg (by have:=List.mem_range.1 hi;omega)]
 ·simp[zIs]
theorem VS.grow9 {kt:Nat→Int}{B k g p q f:Nat}{T:TT}{un:Value}{ul:List Nat}{rd:Nat→Bool}{bl:Nat→ByteArray}{dn:Nat→Bool}{X:Nat→Nat}{R:Nat→Value}{w W:World}{Q n:Nat}{v:Value}{xs:List Value}(h:VS kt B k g p q f T un ul rd bl dn X R w)(F:w.ownsRow Q 9 1 v n xs)(hq:q<Q)(D:w.grownBy W v.ownBlock):VS kt B k g p q f T un ul rd bl dn X R W where
 row:=by rw[D.block k (Array.getElem?_eq_some_iff.1 h.row).1 (fun e=>by obtain⟨cur,u⟩:=zB F k e.symm;exact zE h.row u (by decide) rfl)];exact h.row
 hd:=h.hd.kept (fun j cs t Z G=>by
  rw[D.block j (Array.getElem?_eq_some_iff.1 G).1 (fun e=>by
   obtain⟨cur,u⟩:=zB F j e.symm
   exact zE G u (by rcases Z with e|e<;>simp[e]) rfl)]
  exact G)
 unO:=zD h.unO (fun j G=>by
  obtain⟨cur,u⟩:=zB h.unO j G
  exact D.block j (Array.getElem?_eq_some_iff.1 u).1 (fun e=>by
   obtain⟨J,A⟩:=zB F j e.symm
   exact zE u A (by decide) rfl))
 rdR:=(D.block p h.rdR.lt (fun e=>by obtain⟨cur,u⟩:=zB F p e.symm;exact zE h.rdR u (by decide) rfl)).trans h.rdR
 blR:=(D.block q h.blR.lt (fun e=>by have:=zK F q e.symm;omega)).trans h.blR
 fiR:=(D.block f h.fiR.lt (fun e=>by obtain⟨cur,u⟩:=zB F f e.symm;exact zE h.fiR u (by decide) rfl)).trans h.fiR
 fn:=fun s hs hd=>by
  obtain⟨N,U⟩:=h.fn s hs hd
  refine⟨?_,zD U (fun j G=> ?_)⟩
  ·rw[D.block _ (Array.getElem?_eq_some_iff.1 N).1 (fun e=>by obtain⟨cur,u⟩:=zB F _ e.symm;exact zE N u (by decide) rfl)];exact N
  ·obtain⟨cur,u⟩:=zB U j G
   exact D.block j (Array.getElem?_eq_some_iff.1 u).1 (fun e=>by
    obtain⟨J,A⟩:=zB F j e.symm
    exact zE u A (by decide) rfl)
def txs (l:List ByteArray):List Value:=l.map Value.string
theorem zIn (l r:List ByteArray):txs (l++r)=txs l++txs r:=List.map_append
def OwnT (w:World)(B:Nat)(v:Value)(l:List ByteArray):Prop:=w.ownsRow B 9 1 v l.length (txs l)
theorem OwnT.nil (w:World)(B:Nat):OwnT w B (.slice none 0 0) []:=⟨rfl,.inl ⟨rfl,rfl⟩⟩
theorem OwnT.below {w w':World}{B:Nat}{v:Value}{l:List ByteArray}(h:OwnT w B v l)(hb:Below w.heap.size w w'):OwnT w' B v l:=zD h (fun q j=>hb.block q (zG h q j))
theorem OwnT.base {w:World}{B j:Nat}{v:Value}{l:List ByteArray}(h:OwnT w B v l)(hb:j≤B):OwnT w j v l:=zP h hb
theorem OwnT.cat {w:World}{B R:Nat}{v u:Value}{l r:List ByteArray}(Q:OwnT w B v l)(G:OwnT w R u r)(hn:l.length+r.length≤1000000)(W:B≤w.heap.size):
 ∃D w',(Builtin.append_ #[22,22] 22 #[v,u]).run Tryz.prog w=.ok D w'∧OwnT w' B D (l++r)∧w.grownBy w' v.ownBlock∧(∀A,B≤A.heap.size→Below A.heap.size A w→(B=A.heap.size)→Below A.heap.size A w')∧(∀j,j<w.heap.size→D.ownBlock=some j→v.ownBlock=some j):=by
 obtain⟨i0,F,z0,z1,z2⟩:=info_parts zD1
 obtain⟨D,w',Z,X,N,hb⟩:=zV 22 Tryz.underlying22 F z0 z1 z2 rfl (by decide) Q G (by intro u G;obtain⟨x,_,rfl⟩:=List.mem_map.1 G;rfl) (by omega) (by omega) W
 refine⟨D,w',Z,?_,N,fun A h0 J U=>J.grown N J.size (fun y hy=>by rw[←U];exact zK Q y hy),fun j hj e=>by
  rcases hb with h|h
  ·exact h.symm.trans e
  ·rw[h]at e;have:=Option.some.inj e;omega⟩
 unfold OwnT
 rw[List.length_append,zIn]
 exact X
theorem OwnT.snoc {w:World}{B:Nat}{v:Value}{l:List ByteArray}(N:OwnT w B v l)(x:ByteArray)(hn:l.length≤1000000)(hB:B≤w.heap.size):
 ∃D w',(Builtin.append_ #[22,22] 22 #[v,.slice (some ⟨w.heap.size,0,none⟩) 1 1]).run Tryz.prog (w.alloc (.cells #[.string x] 9))=.ok D w'∧OwnT w' B D (l++[x])∧(w.alloc (.cells #[.string x] 9)).grownBy w' v.ownBlock∧(∀A,Below A.heap.size A w→(B=A.heap.size)→Below A.heap.size A w')∧(∀j,j<w.heap.size→D.ownBlock=some j→v.ownBlock=some j):=by
 obtain⟨i0,G,X,Z,z2⟩:=info_parts zD1
 obtain⟨D,w',U,R,J,hb⟩:=zV 22 Tryz.underlying22 G X Z z2 rfl (by decide) (N.alloc (.cells #[.string x] 9)) (zFu w x) (by intro u hu;simp at hu;subst hu;rfl) (by omega) (by omega) (by simp;omega)
 refine⟨D,w',U,?_,J,fun A F Q=>(F.alloc F.size _).grown J (by simp;exact Nat.le_succ_of_le F.size) (fun y W=>by rw[←Q];exact zK N y W),fun j hj e=>by
  rcases hb with h|h
  ·exact h.symm.trans e
  ·rw[h]at e;have:=Option.some.inj e;simp at this;omega⟩
 unfold OwnT
 rw[List.length_append,zIn]
 exact R
theorem zIl {kt:Nat→Int}{t:ByteArray}(h:rdE kt t=none):(tT t).lst=zA1 (tT t).L.K (tT t).L.M (tT t).L.C (tT t).L.V (tT t).L.es.length (nmE (tT t).L.es) (lnE (tT t).L.es):=by
 have j:=(zGB (zR (zY h).2.1)).2.1
 apply zHD
 rw[zD7]
 exact j
theorem OwnT.row {w:World}{B:Nat}{v:Value}{l:List ByteArray}(h:OwnT w B v l)(F:0<l.length):∃g c,v=.slice (some ⟨g,0,none⟩) l.length c∧g<w.heap.size∧∀i,i<l.length→w.cell? ⟨g,i,none⟩=some (.string (l.getD i ⟨#[]⟩)):=by
 have j:w.ownsRow B 9 1 v l.length (tV (fun i=>l.getD i ⟨#[]⟩) l.length):=by
  have e:tV (fun i=>l.getD i ⟨#[]⟩) l.length=txs l:=by
   unfold tV txs
   apply List.ext_getElem
   ·simp
   ·intro i G u
    have hi:i<l.length:=by simpa using u
    simp[List.getD_eq_getElem?_getD,List.getElem?_eq_getElem hi]
  rw[e];exact h
 obtain⟨g,c,e,_,D,A⟩:=zAb j F
 exact⟨g,c,e,D,A⟩
structure HVd (kt:Nat→Int)(t:ByteArray)(K M C V:Nat)(root:ByteArray)(es:List (ByteArray×Nat))(num cnt:Nat)(Lf:Nat→ByteArray)(first nb:Nat)(Bk:Nat→ByteArray):Prop where
 rd:rdE kt t=none
 rh:∀vE vL vB,rhT t vE vL vB=⟨K,M,C,V,root,vE,es,num,vL,cnt,Lf,first,vB,nb,Bk⟩
 lst:(tT t).lst=zA1 K M C V es.length (nmE es) (lnE es)
 eroot:(tT t).root=root
 enum:(tT t).num=num
 ecnt:(tT t).L.cnt=cnt
 lf:Lf=pc (tT t).lv 32
 lvz:(tT t).lv.size=cnt*32
 km:K+M≤255
 c64:C≤64
 v16:V≤16
 e16:es.length≤16
 nm:∀j,(nmE es j).size≤1000
 ln:∀j,lnE es j≤100000
 c512:cnt≤512
 n512:nb≤512
theorem zNX {kt:Nat→Int}{t:ByteArray}(h:rdE kt t=none):∃K M C V root es num cnt Lf first nb Bk,HVd kt t K M C V root es num cnt Lf first nb Bk:=by
 have j:zt (tT t):=zAz (zY h).2.1
 have F:(tT t).first+nB t≤(tT t).L.cnt:=(zDh h).2
 have A:=j.cnt
 have D:nB t≤512:=by omega
 have u:=zAQ (RS.on t)
 exact⟨_,_,_,_,_,_,_,_,_,_,_,_,⟨h,fun vE vL vB=>rfl,zIl h,rfl,rfl,rfl,rfl,j.lv,j.km,j.c64,j.v16,u.1,zEA (zFA (RS.on t)),zD6 u.2,A,D⟩⟩
def RHd (kt:Nat→Int)(B:Nat)(t:ByteArray)(h:Nat)(w:World):Prop:=rdE kt t=none∧B≤h∧∃vE vL vB,w.heap[h]? =some (.cells (rhT t vE vL vB).cells 84 (0,0))∧w.ownsRow B 131 2 vE (rhT t vE vL vB).es.length (enV (rhT t vE vL vB).es)∧w.ownsRow B 9 1 vL (rhT t vE vL vB).nl (tV (rhT t vE vL vB).Lf (rhT t vE vL vB).nl)∧w.ownsRow B 9 1 vB (rhT t vE vL vB).nb (tV (rhT t vE vL vB).Bk (rhT t vE vL vB).nb)
theorem RHd.below {kt:Nat→Int}{B:Nat}{t:ByteArray}{h:Nat}{w w':World}(H:RHd kt B t h w)(hb:Below w.heap.size w w'):RHd kt B t h w':=by
 obtain⟨A,D,vE,vL,vB,u,oE,oL,oB⟩:=H
 exact⟨A,D,vE,vL,vB,by rw[hb.block h (Array.getElem?_eq_some_iff.1 u).1];exact u,zD oE (fun q j=>hb.block q (zG oE q j)),zD oL (fun q j=>hb.block q (zG oL q j)),zD oB (fun q j=>hb.block q (zG oB q j))⟩
theorem RHd.lt {kt:Nat→Int}{B:Nat}{t:ByteArray}{h:Nat}{w:World}(H:RHd kt B t h w):h<w.heap.size:=by
 obtain⟨u,A,vE,vL,vB,j,_⟩:=H
 exact (Array.getElem?_eq_some_iff.1 j).1
theorem RHd.parts {kt:Nat→Int}{B:Nat}{t:ByteArray}{h:Nat}{w:World}{K M C V:Nat}{root:ByteArray}{es:List (ByteArray×Nat)}{num cnt:Nat}{Lf:Nat→ByteArray}{first nb:Nat}{Bk:Nat→ByteArray}(H:RHd kt B t h w)(D:HVd kt t K M C V root es num cnt Lf first nb Bk):
 ∃u G A J j F,w.heap[h]? =some (.cells (HD.cells ⟨K,M,C,V,root,.slice u es.length G,es,num,.slice A cnt J,cnt,Lf,first,.slice j nb F,nb,Bk⟩) 84 (0,0))∧w.ownsRow B 131 2 (.slice u es.length G) es.length (enV es)∧w.ownsRow B 9 1 (.slice A cnt J) cnt (tV Lf cnt)∧w.ownsRow B 9 1 (.slice j nb F) nb (tV Bk nb):=by
 obtain⟨Q,R,vE,vL,vB,N,oE,oL,oB⟩:=H
 rw[D.rh]at N oE oL oB
 simp only[]at oE oL oB
 obtain⟨u,G,rfl⟩:=zA oE
 obtain⟨A,J,rfl⟩:=zA oL
 obtain⟨j,F,rfl⟩:=zA oB
 exact⟨u,G,A,J,j,F,N,oE,oL,oB⟩
theorem zDd {w:World}{B n c:Nat}{a:Option Addr}{L:Nat→ByteArray}(h:w.ownsRow B 9 1 (.slice a n c) n (tV L n)){i:Nat}(hi:i<n):∃g,a=some ⟨g,0,none⟩∧g<w.heap.size∧w.cell? ⟨g,i,none⟩=some (.string (L i)):=by
 obtain⟨g,j,e,_,A,u⟩:=zAb h (by omega)
 cases e
 exact⟨g,rfl,A,u i hi⟩
def SaD (ta tb:ByteArray)(w:World)(e:Ending)(w':World):Prop:=∃b:Bool,e=.returned (.bool b)∧(b=true↔zAT ta tb)∧Below w.heap.size w w'
theorem SaD.no {j u:ByteArray}{w w':World}(h:¬zAT j u)(hb:Below w.heap.size w w'):SaD j u w (.returned (.bool false)) w':=⟨false,rfl,⟨fun e=>(by cases e),fun e=>absurd e h⟩,hb⟩
theorem SaD.yes {j u:ByteArray}{w w':World}(h:zAT j u)(hb:Below w.heap.size w w'):SaD j u w (.returned (.bool true)) w':=⟨true,rfl,⟨fun _=>h,fun _=>rfl⟩,hb⟩
theorem zPK (kt:Nat→Int)(B:Nat)(ta tb:ByteArray)(F hb:Nat)(w:World)(HA:RHd kt B ta F w)(HB:RHd kt B tb hb w):
 Calls Tryz.prog 52 #[.pointer (some ⟨F,0,none⟩),.pointer (some ⟨hb,0,none⟩)] w fun e w'=>SaD ta tb w e w':=by
 obtain⟨K,M,C,V,root,es,num,cnt,Lf,first,nb,Bk,DA⟩:=zNX HA.1
 obtain⟨K',M',C',V',A,G,d0,N,a8,bP,d8,d4,DB⟩:=zNX HB.1
 obtain⟨aE,cE,aL,cL,aB,cB,hr,oE,oL,oB⟩:=HA.parts DA
 obtain⟨a9,aA,aR,aS,d5,d6,bJ,aX,bK,cU⟩:=HB.parts DB
 have cN:=HA.lt
 have cO:=HB.lt
 have H1:Hid _:=DA
 have H2:Hid _:=DB
 have cF:Hid _:=hr
 have cG:Hid _:=bJ
 have cA:Hid _:=oL
 have cC:Hid _:=bK
 have c9:Hid ((tT ta).lst=(tT tb).lst→cnt=N):=fun e=>by
  have h1:=(zCW (zR (zY HA.1).2.1) (zR (zY HB.1).2.1) e).cnt
  have h2:(tT tb).L.cnt=(tT ta).L.cnt:=h1
  rw[DA.ecnt,DB.ecnt]at h2
  exact h2.symm
 obtain⟨l1,aU⟩:∃x,zA1 K M C V es.length (nmE es) (lnE es)=x:=⟨_,rfl⟩
 obtain⟨l2,aV⟩:∃x,zA1 K' M' C' V' G.length (nmE G) (lnE G)=x:=⟨_,rfl⟩
 have b6:Hid ((tT ta).lst=l1):=DA.lst.trans aU
 have b9:Hid ((tT tb).lst=l2):=DB.lst.trans aV
 have aF:Hid (∀X:World,Below w.heap.size w X→Calls Tryz.prog 79 #[.agg #[.int .i64 K,.int .i64 M,.int .i64 C,.int .i64 V],.slice aE es.length cE] X fun e w'=>e=.returned (.string l1)∧Below X.heap.size X w'):=fun X hX=>by
  have:=DA.km;have:=DA.c64;have:=DA.v16;have:=DA.e16
  rw[←aU]
  exact zBR K M C V es.length cE aE (nmE es) (lnE es) X (by omega) (by omega) (by omega) (by omega) (by omega) DA.nm DA.ln (zd rfl (zD oE (fun q hq=>hX.block q (zG oE q hq))))
 have aG:Hid (∀X:World,Below w.heap.size w X→Calls Tryz.prog 79 #[.agg #[.int .i64 K',.int .i64 M',.int .i64 C',.int .i64 V'],.slice a9 G.length aA] X fun e w'=>e=.returned (.string l2)∧Below X.heap.size X w'):=fun X hX=>by
  have:=DB.km;have:=DB.c64;have:=DB.v16;have:=DB.e16
  rw[←aV]
  exact zBR K' M' C' V' G.length aA a9 (nmE G) (lnE G) X (by omega) (by omega) (by omega) (by omega) (by omega) DB.nm DB.ln (zd rfl (zD aX (fun q hq=>hX.block q (zG aX q hq))))
 clear HA HB DA DB aU aV oE oL oB aX bK cU hr bJ
 have HV:Hid (∀u:World,Below w.heap.size w u→u.cell? ⟨F,0,none⟩=some (.int .i64 K)∧u.cell? ⟨F,1,none⟩=some (.int .i64 M)∧u.cell? ⟨F,2,none⟩=some (.int .i64 C)∧u.cell? ⟨F,3,none⟩=some (.int .i64 V)∧u.cell? ⟨F,4,none⟩=some (.string root)∧u.cell? ⟨F,5,none⟩=some (.slice aE es.length cE)∧u.cell? ⟨F,7,none⟩=some (.slice aL cnt cL)∧u.cell? ⟨hb,0,none⟩=some (.int .i64 K')∧u.cell? ⟨hb,1,none⟩=some (.int .i64 M')∧u.cell? ⟨hb,2,none⟩=some (.int .i64 C')∧u.cell? ⟨hb,3,none⟩=some (.int .i64 V')∧u.cell? ⟨hb,4,none⟩=some (.string A)∧u.cell? ⟨hb,5,none⟩=some (.slice a9 G.length aA)∧u.cell? ⟨hb,7,none⟩=some (.slice aR N aS)):=fun X hX=>by
  have h1:=(hX.block F cN).trans cF.out
  have h2:=(hX.block hb cO).trans cG.out
  exact⟨cell_of_row _ _ _ _ 84 _ h1,cell_of_row _ _ _ _ 84 _ h1,cell_of_row _ _ _ _ 84 _ h1,cell_of_row _ _ _ _ 84 _ h1,cell_of_row _ _ _ _ 84 _ h1,cell_of_row _ _ _ _ 84 _ h1,cell_of_row _ _ _ _ 84 _ h1,cell_of_row _ _ _ _ 84 _ h2,cell_of_row _ _ _ _ 84 _ h2,cell_of_row _ _ _ _ 84 _ h2,cell_of_row _ _ _ _ 84 _ h2,cell_of_row _ _ _ _ 84 _ h2,cell_of_row _ _ _ _ 84 _ h2,cell_of_row _ _ _ _ 84 _ h2⟩
 have aH:Hid (zAT ta tb↔root=A∧l1=l2∧(tT ta).lv=(tT tb).lv):=by
  show _↔_
  unfold zAT
  rw[H1.out.eroot,H2.out.eroot,b6.out,b9.out]
 obtain⟨v0,v1,v2,v3,v4,v5,v6,v7,v8,v9,aM,aN,aO,aP⟩:=HV.out w (Below.refl _ _)
 by_cases W:root=A
 ·have q1:(root.toList == A.toList)=true:=zS W
  have cH:Hid _:=W
  clear W
  by_cases U:l1=l2
  ·have q2:(l1.toList == l2.toList)=true:=zS U
   have cP:=c9.out (by rw[b6.out,b9.out,U])
   have cY:((cnt:Int) == (N:Int))=true:=by simp;omega
   have cD:Hid _:=U
   clear U
   go_enter Tryz.func52,Tryz.ntmps52
   go_wp2_with fail
   go_region_held3 (fun u=>u.cell? ⟨F,0,none⟩=some (.int .i64 K)∧u.cell? ⟨F,1,none⟩=some (.int .i64 M)∧u.cell? ⟨F,2,none⟩=some (.int .i64 C)∧u.cell? ⟨F,3,none⟩=some (.int .i64 V)∧u.cell? ⟨F,4,none⟩=some (.string root)∧u.cell? ⟨F,5,none⟩=some (.slice aE es.length cE)∧u.cell? ⟨F,7,none⟩=some (.slice aL cnt cL)∧u.cell? ⟨hb,0,none⟩=some (.int .i64 K')∧u.cell? ⟨hb,1,none⟩=some (.int .i64 M')∧u.cell? ⟨hb,2,none⟩=some (.int .i64 C')∧u.cell? ⟨hb,3,none⟩=some (.int .i64 V')∧u.cell? ⟨hb,4,none⟩=some (.string A)∧u.cell? ⟨hb,5,none⟩=some (.slice a9 G.length aA)∧u.cell? ⟨hb,7,none⟩=some (.slice aR N aS)) (first|exact⟨y0,y1,y2,y3,y4,y5,y6,y7,y8,y9,y10,y11,y12,y13⟩|exact⟨x0,x1,x2,x3,x4,x5,x6,x7,x8,x9,x10,x11,x12,x13⟩|exact⟨v0,v1,v2,v3,v4,v5,v6,v7,v8,v9,aM,aN,aO,aP⟩|go_keep) (first|(go_at_call 79;have bD:=D;clear bD;refine Calls.mono (aG.out _ D) ?_;rintro e w8 ⟨rfl,aC⟩;have Q:Below w.heap.size w w8:=(D.trans (aC.mono D.size));obtain⟨y0,y1,y2,y3,y4,y5,y6,y7,y8,y9,y10,y11,y12,y13⟩:=HV.out w8 Q)|(go_at_call 79;refine Calls.mono (aF.out _ (by first|exact Below.refl _ _|exact (Below.refl _ _).drew)) ?_;rintro e w7 ⟨rfl,R⟩;have D:Below w.heap.size w w7:=(by first|exact R|exact ((Below.refl _ _).drew).trans R);obtain⟨x0,x1,x2,x3,x4,x5,x6,x7,x8,x9,x10,x11,x12,x13⟩:=HV.out w7 D))
   have aQ:Hid (Below w.heap.size w w8):=Q
   clear R D aC Q v0 v1 v2 v3 v4 v5 v6 v7 v8 v9 aM aN aO aP x0 x1 x2 x3 x4 x5 x6 x7 x8 x9 x10 x11 x12 x13 y0 y1 y2 y3 y4 y5 y6 y7 y8 y9 y10 y11 y12 y13 q1 q2 aF aG
   subst cP
   have bA:Hid ((∀j,j<cnt→Lf j=a8 j)↔(tT ta).lv=(tT tb).lv):=by
    have z1:=H1.out.lvz
    have z2:=H2.out.lvz
    rw[H1.out.lf,H2.out.lf]
    constructor
    ·intro h
     rw[←zNd _ 32 cnt z1,←zNd _ 32 cnt z2]
     exact zBv h
    ·intro h j _
     rw[h]
   go_wp2_with fail
   go_loopw [5] (fun iv wr=>∃i:Nat,i≤cnt∧iv=.int .i64 i∧(∀j,j<i→Lf j=a8 j)∧Below w.heap.size w wr) (fun iv _=>cnt-(intOf iv).toNat)
   case atStart=>exact⟨0,Nat.zero_le _,rfl,fun j hj=>by omega,aQ.out⟩
   case round=>
    obtain⟨i,hi,rfl,hE,bE⟩:=hrel
    have HE:Hid _:=hE
    have J:Hid _:=bE
    clear hE bE
    obtain⟨_,_,_,_,_,_,a7,_,_,_,_,_,_,b7⟩:=HV.out wr J.out
    by_cases aW:i<cnt
    ·have bH:(i:Int)<(cnt:Int):=by omega
     have cW:=H1.out.c512
     obtain⟨g1,rfl,cQ,c1⟩:=zDd cA.out aW
     obtain⟨g2,rfl,cR,c2⟩:=zDd cC.out aW
     have d1:=(J.out.cell (p:=⟨g1,i,none⟩) cQ).trans c1
     have d2:=(J.out.cell (p:=⟨g2,i,none⟩) cR).trans c2
     clear c1 c2
     by_cases Z:Lf i=a8 i
     ·have q1:((Lf i).toList == (a8 i).toList)=true:=zS Z
      have cI:Hid _:=Z
      clear Z
      go_wp2_with fail
      go_region
      go_wp2_with fail
      go_roundw
      case rel=>
       refine⟨i+1,by omega,by go_num,fun j hj=> ?_,by first|exact J.out.drew|exact J.out⟩
       by_cases e:j=i
       ·rw[e];exact cI.out
       ·exact HE.out j (by omega)
      case measure=>simp[intOf];omega
     ·have q1:((Lf i).toList == (a8 i).toList)=false:=zW Z
      have a6:Hid (¬zAT ta tb):=fun h=>Z (bA.out.2 (aH.out.1 h).2.2 i aW)
      clear Z
      go_wp2_with fail
      go_region
      go_wp2_with fail
      go_ret
      exact SaD.no a6.out (by first|exact J.out.drew|exact J.out)
    ·have bH:¬(i:Int)<(cnt:Int):=by omega
     obtain rfl:i=cnt:=by omega
     have cJ:Hid (zAT ta tb):=aH.out.2 ⟨cH.out,cD.out,bA.out.1 HE.out⟩
     go_wp2_with fail
     go_ret
     exact SaD.yes cJ.out J.out
  ·have q2:(l1.toList == l2.toList)=false:=zW U
   have a6:Hid (¬zAT ta tb):=fun h=>U (aH.out.1 h).2.1
   clear U
   go_enter Tryz.func52,Tryz.ntmps52
   go_wp2_with fail
   refine wp_region_held_drew (S:=fun u=>u.cell? ⟨F,0,none⟩=some (.int .i64 K)∧u.cell? ⟨F,1,none⟩=some (.int .i64 M)∧u.cell? ⟨F,2,none⟩=some (.int .i64 C)∧u.cell? ⟨F,3,none⟩=some (.int .i64 V)∧u.cell? ⟨F,4,none⟩=some (.string root)∧u.cell? ⟨F,5,none⟩=some (.slice aE es.length cE)∧u.cell? ⟨F,7,none⟩=some (.slice aL cnt cL)∧u.cell? ⟨hb,0,none⟩=some (.int .i64 K')∧u.cell? ⟨hb,1,none⟩=some (.int .i64 M')∧u.cell? ⟨hb,2,none⟩=some (.int .i64 C')∧u.cell? ⟨hb,3,none⟩=some (.int .i64 V')∧u.cell? ⟨hb,4,none⟩=some (.string A)∧u.cell? ⟨hb,5,none⟩=some (.slice a9 G.length aA)∧u.cell? ⟨hb,7,none⟩=some (.slice aR N aS)) (by kernel_rfl) (by exact⟨v0,v1,v2,v3,v4,v5,v6,v7,v8,v9,aM,aN,aO,aP⟩) (fun aT=> ?_)
   refine wpAnyH_take (i:=0) (oi:=Oper.mk (some 6) _ _ _ _ _) (v:= ?v0) rfl (by kernel_rfl) (by kernel_rfl) (by kernel_rfl) (fun _ _ _ h=>h) (Or.inl ⟨by rfl,?hy0⟩) (by assumption) ?rest0
   case hy0=>(intro X hX;(try dsimp only at hX);go_simp;try with_reducible rfl)
   try go_frame
   refine wpAnyH_take (i:=1) (oi:=Oper.mk (some 7) _ _ _ _ _) (v:= ?v1) rfl (by kernel_rfl) (by kernel_rfl) (by kernel_rfl) (fun _ _ _ h=>h) (Or.inl ⟨by rfl,?hy1⟩) (by assumption) ?rest1
   case hy1=>(intro X hX;(try dsimp only at hX);go_simp;try with_reducible rfl)
   try go_frame
   refine wpAnyH_take (i:=2) (oi:=Oper.mk (some 8) _ _ _ _ _) (v:= ?v2) rfl (by kernel_rfl) (by kernel_rfl) (by kernel_rfl) (fun _ _ _ h=>h) (Or.inl ⟨by rfl,?hy2⟩) (by assumption) ?rest2
   case hy2=>(intro X hX;(try dsimp only at hX);go_simp;try with_reducible rfl)
   try go_frame
   refine wpAnyH_take (i:=3) (oi:=Oper.mk (some 9) _ _ _ _ _) (v:= ?v3) rfl (by kernel_rfl) (by kernel_rfl) (by kernel_rfl) (fun _ _ _ h=>h) (Or.inl ⟨by rfl,?hy3⟩) (by assumption) ?rest3
   case hy3=>(intro X hX;(try dsimp only at hX);go_simp;try with_reducible rfl)
   try go_frame
   refine wpAnyH_take (i:=4) (oi:=Oper.mk (some 10) _ _ _ _ _) (v:= ?v4) rfl (by kernel_rfl) (by kernel_rfl) (by kernel_rfl) (fun _ _ _ h=>h) (Or.inl ⟨by rfl,?hy4⟩) (by assumption) ?rest4
   case hy4=>(intro X hX;(try dsimp only at hX);go_simp;try with_reducible rfl)
   try go_frame
   refine wpAnyH_take (i:=5) (oi:=Oper.mk (some 11) _ _ _ _ _) (v:= ?v5) rfl (by kernel_rfl) (by kernel_rfl) (by kernel_rfl) (fun _ _ _ h=>h) (Or.inl ⟨by rfl,?hy5⟩) (by assumption) ?rest5
   case hy5=>(intro X hX;(try dsimp only at hX);go_simp;try with_reducible rfl)
   try go_frame
   refine wpAnyH_take (i:=6) (oi:=Oper.mk (some 12) _ _ _ _ _) (v:= ?v6) rfl (by kernel_rfl) (by kernel_rfl) (by kernel_rfl) (fun _ _ _ h=>h) (Or.inl ⟨by rfl,?hy6⟩) (by assumption) ?rest6
   case hy6=>(intro X hX;(try dsimp only at hX);go_simp;try with_reducible rfl)
   try go_frame
   refine wpAnyH_take (i:=7) (oi:=Oper.mk (some 13) _ _ _ _ _) (v:= ?v7) rfl (by kernel_rfl) (by kernel_rfl) (by kernel_rfl) (fun _ _ _ h=>h) (Or.inl ⟨by rfl,?hy7⟩) (by assumption) ?rest7
   case hy7=>(intro X hX;(try dsimp only at hX);go_simp;try with_reducible rfl)
   try go_frame
   refine wpAnyH_take (i:=8) (oi:=Oper.mk (some 14) _ _ _ _ _) (v:= ?v8) rfl (by kernel_rfl) (by kernel_rfl) (by kernel_rfl) (fun _ _ _ h=>h) (Or.inl ⟨by rfl,?hy8⟩) (by assumption) ?rest8
   case hy8=>(intro X hX;(try dsimp only at hX);go_simp;try with_reducible rfl)
   try go_frame
   refine wpAnyH_take (i:=9) (oi:=Oper.mk (some 15) _ _ _ _ _) (v:= ?v9) rfl (by kernel_rfl) (by kernel_rfl) (by kernel_rfl) (fun _ _ _ h=>h) (Or.inl ⟨by rfl,?hy9⟩) (by assumption) ?rest9
   case hy9=>(intro X hX;(try dsimp only at hX);go_simp;try with_reducible rfl)
   try go_frame
   refine wpAnyH_take (i:=10) (oi:=Oper.mk (some 16) _ _ _ _ _) (v:= ?v10) rfl (by kernel_rfl) (by kernel_rfl) (by kernel_rfl) (fun _ _ _ h=>h) (Or.inl ⟨by rfl,?hy10⟩) (by assumption) ?rest10
   case hy10=>(intro X hX;(try dsimp only at hX);go_simp;try with_reducible rfl)
   try go_frame
   refine wpAnyH_take (i:=11) (oi:=Oper.mk (some 17) _ _ _ _ _) (v:= ?v11) rfl (by kernel_rfl) (by kernel_rfl) (by kernel_rfl) (fun _ _ _ h=>h) (Or.inl ⟨by rfl,?hy11⟩) (by assumption) ?rest11
   case hy11=>(intro X hX;(try dsimp only at hX);go_simp;try with_reducible rfl)
   try go_frame
   refine wpAnyH_take (i:=12) (oi:=Oper.mk (some 18) _ _ _ _ _) (v:= ?v12) rfl (by kernel_rfl) (by kernel_rfl) (by kernel_rfl) (fun _ _ _ h=>h) (Or.inl ⟨by rfl,?hy12⟩) (by assumption) ?rest12
   case hy12=>(intro X hX;(try dsimp only at hX);go_simp;try with_reducible rfl)
   try go_frame
   refine wpAnyH_take (i:=13) (oi:=Oper.mk (some 19) _ _ _ _ _) (v:= ?v13) rfl (by kernel_rfl) (by kernel_rfl) (by kernel_rfl) (fun _ _ _ h=>h) (Or.inl ⟨by rfl,?hy13⟩) (by assumption) ?rest13
   case hy13=>(intro X hX;(try dsimp only at hX);go_simp;try with_reducible rfl)
   try go_frame
   refine wpAnyH_take (i:=14) (oi:=Oper.mk (some 20) _ _ _ _ _) (v:= ?v14) rfl (by kernel_rfl) (by kernel_rfl) (by kernel_rfl) (fun _ _ _ h=>h) (Or.inl ⟨by rfl,?hy14⟩) (by assumption) ?rest14
   case hy14=>(intro X hX;(try dsimp only at hX);go_simp;try with_reducible rfl)
   try go_frame
   refine wpAnyH_take (i:=15) (oi:=Oper.mk (some 21) _ _ _ _ _) (v:= ?v15) rfl (by kernel_rfl) (by kernel_rfl) (by kernel_rfl) (fun _ _ _ h=>h) (Or.inl ⟨by rfl,?hy15⟩) (by assumption) ?rest15
   case hy15=>(intro X hX;(try dsimp only at hX);go_simp;try with_reducible rfl)
   try go_frame
   refine wpAnyH_take (i:=16) (oi:=Oper.mk (some 22) _ _ _ _ _) (v:= ?v16) rfl (by kernel_rfl) (by kernel_rfl) (by kernel_rfl) (fun _ _ _ h=>h) (Or.inl ⟨by rfl,?hy16⟩) (by assumption) ?rest16
   case hy16=>(intro X hX;(try dsimp only at hX);go_simp;try with_reducible rfl)
   try go_frame
   refine wpAnyH_take (i:=17) (oi:=Oper.mk (some 23) _ _ _ _ _) (v:= ?v17) rfl (by kernel_rfl) (by kernel_rfl) (by kernel_rfl) (fun _ _ _ h=>h) (Or.inl ⟨by rfl,?hy17⟩) (by assumption) ?rest17
   case hy17=>(intro X hX;(try dsimp only at hX);go_simp;try with_reducible rfl)
   try go_frame
   refine wpAnyH_take (i:=19) (oi:=Oper.mk (some 25) _ _ _ _ _) (v:= ?v19) rfl (by kernel_rfl) (by kernel_rfl) (by kernel_rfl) (fun _ _ _ h=>h) (Or.inl ⟨by rfl,?hy19⟩) (by assumption) ?rest19
   case hy19=>(intro X hX;(try dsimp only at hX);go_simp;try with_reducible rfl)
   try go_frame
   refine wpAnyH_take (i:=20) (oi:=Oper.mk (some 26) _ _ _ _ _) (v:= ?v20) rfl (by kernel_rfl) (by kernel_rfl) (by kernel_rfl) (fun _ _ _ h=>h) (Or.inl ⟨by rfl,?hy20⟩) (by assumption) ?rest20
   case hy20=>(intro X hX;(try dsimp only at hX);go_simp;try with_reducible rfl)
   try go_frame
   refine wpAnyH_take (i:=21) (oi:=Oper.mk (some 27) _ _ _ _ _) (v:= ?v21) rfl (by kernel_rfl) (by kernel_rfl) (by kernel_rfl) (fun _ _ _ h=>h) (Or.inl ⟨by rfl,?hy21⟩) (by assumption) ?rest21
   case hy21=>(intro X hX;(try dsimp only at hX);go_simp;try with_reducible rfl)
   try go_frame
   refine wpAnyH_take (i:=22) (oi:=Oper.mk (some 28) _ _ _ _ _) (v:= ?v22) rfl (by kernel_rfl) (by kernel_rfl) (by kernel_rfl) (fun _ _ _ h=>h) (Or.inl ⟨by rfl,?hy22⟩) (by assumption) ?rest22
   case hy22=>(intro X hX;(try dsimp only at hX);go_simp;try with_reducible rfl)
   try go_frame
   refine wpAnyH_take (i:=23) (oi:=Oper.mk (some 29) _ _ _ _ _) (v:= ?v23) rfl (by kernel_rfl) (by kernel_rfl) (by kernel_rfl) (fun _ _ _ h=>h) (Or.inl ⟨by rfl,?hy23⟩) (by assumption) ?rest23
   case hy23=>(intro X hX;(try dsimp only at hX);go_simp;try with_reducible rfl)
   try go_frame
   refine wpAnyH_take (i:=24) (oi:=Oper.mk (some 30) _ _ _ _ _) (v:= ?v24) rfl (by kernel_rfl) (by kernel_rfl) (by kernel_rfl) (fun _ _ _ h=>h) (Or.inl ⟨by rfl,?hy24⟩) (by assumption) ?rest24
   case hy24=>(intro X hX;(try dsimp only at hX);go_simp;try with_reducible rfl)
   try go_frame
   refine wpAnyH_take (i:=25) (oi:=Oper.mk (some 31) _ _ _ _ _) (v:= ?v25) rfl (by kernel_rfl) (by kernel_rfl) (by kernel_rfl) (fun _ _ _ h=>h) (Or.inl ⟨by rfl,?hy25⟩) (by assumption) ?rest25
   case hy25=>(intro X hX;(try dsimp only at hX);go_simp;try with_reducible rfl)
   try go_frame
   refine wpAnyH_take (i:=26) (oi:=Oper.mk (some 32) _ _ _ _ _) (v:= ?v26) rfl (by kernel_rfl) (by kernel_rfl) (by kernel_rfl) (fun _ _ _ h=>h) (Or.inl ⟨by rfl,?hy26⟩) (by assumption) ?rest26
   case hy26=>(intro X hX;(try dsimp only at hX);go_simp;try with_reducible rfl)
   try go_frame
   refine wpAnyH_ready (rs:=[18]) (by kernel_rfl) (by simp) ?_
   refine AllReadyH.cons (o:=Oper.mk (some 24) _ _ _ _ _) rfl (fun Ka bF=> ?_) AllReadyH.nil
   go_simp
   refine Calls.mono (aF.out _ (by first|exact Below.refl _ _|exact (Below.refl _ _).drew)) ?_
   rintro e w7 ⟨rfl,R⟩
   have D:Below w.heap.size w w7:=(by first|exact R|exact ((Below.refl _ _).drew).trans R)
   go_wp2_with fail
   refine bF.out _ _ (HV.out w7 D) (fun aJ=> ?_)
   clear aT bF
   try go_frame
   refine wpAnyH_ready (rs:=[27]) (by kernel_rfl) (by simp) ?_
   refine AllReadyH.cons (o:=Oper.mk (some 33) _ _ _ _ _) rfl (fun Kb bG=> ?_) AllReadyH.nil
   go_simp
   refine Calls.mono (aG.out _ D) ?_
   rintro e w8 ⟨rfl,aC⟩
   have Q:Below w.heap.size w w8:=(D.trans (aC.mono D.size))
   go_wp2_with fail
   refine bG.out _ _ (HV.out w8 Q) (fun aK=> ?_)
   clear aJ bG
   try go_frame
   refine wpAnyH_take (i:=28) (oi:=Oper.mk (some 34) _ _ _ _ _) (v:= ?v28) rfl (by kernel_rfl) (by kernel_rfl) (by kernel_rfl) (fun _ _ _ h=>h) (Or.inl ⟨by rfl,?hy28⟩) (by assumption) ?rest28
   case hy28=>(intro X hX;(try dsimp only at hX);go_simp;try with_reducible rfl)
   try go_frame
   refine wpAnyH_take (i:=29) (oi:=Oper.mk (some 35) _ _ _ _ _) (v:= ?v29) rfl (by kernel_rfl) (by kernel_rfl) (by kernel_rfl) (fun _ _ _ h=>h) (Or.inl ⟨by rfl,?hy29⟩) (by assumption) ?rest29
   case hy29=>(intro X hX;(try dsimp only at hX);go_simp;try with_reducible rfl)
   try go_frame
   refine wpAnyH_take (i:=30) (oi:=Oper.mk (some 36) _ _ _ _ _) (v:= ?v30) rfl (by kernel_rfl) (by kernel_rfl) (by kernel_rfl) (fun _ _ _ h=>h) (Or.inl ⟨by rfl,?hy30⟩) (by assumption) ?rest30
   case hy30=>(intro X hX;(try dsimp only at hX);go_simp;try with_reducible rfl)
   try go_frame
   refine wpAnyH_take (i:=31) (oi:=Oper.mk (some 37) _ _ _ _ _) (v:=undef) rfl (by kernel_rfl) (by kernel_rfl) (by kernel_rfl) (fun _ _ _ h=>h) (Or.inr ⟨by rfl,rfl⟩) (by assumption) ?rest31
   try go_frame
   refine wpAnyH_take (i:=32) (oi:=Oper.mk (some 38) _ _ _ _ _) (v:=undef) rfl (by kernel_rfl) (by kernel_rfl) (by kernel_rfl) (fun _ _ _ h=>h) (Or.inr ⟨by rfl,rfl⟩) (by assumption) ?rest32
   try go_frame
   refine wpAnyH_take (i:=33) (oi:=Oper.mk (some 39) _ _ _ _ _) (v:=undef) rfl (by kernel_rfl) (by kernel_rfl) (by kernel_rfl) (fun _ _ _ h=>h) (Or.inr ⟨by rfl,rfl⟩) (by assumption) ?rest33
   try go_frame
   refine wpAnyH_take (i:=34) (oi:=Oper.mk (some 40) _ _ _ _ _) (v:=undef) rfl (by kernel_rfl) (by kernel_rfl) (by kernel_rfl) (fun _ _ _ h=>h) (Or.inr ⟨by rfl,rfl⟩) (by assumption) ?rest34
   try go_frame
   refine wpAnyH_take (i:=35) (oi:=Oper.mk (some 41) _ _ _ _ _) (v:=undef) rfl (by kernel_rfl) (by kernel_rfl) (by kernel_rfl) (fun _ _ _ h=>h) (Or.inr ⟨by rfl,rfl⟩) (by assumption) ?rest35
   try go_frame
   refine wpAnyH_take (i:=36) (oi:=Oper.mk (some 42) _ _ _ _ _) (v:=undef) rfl (by kernel_rfl) (by kernel_rfl) (by kernel_rfl) (fun _ _ _ h=>h) (Or.inr ⟨by rfl,rfl⟩) (by assumption) ?rest36
   try go_frame
   refine wpAnyH_take (i:=37) (oi:=Oper.mk (some 43) _ _ _ _ _) (v:=undef) rfl (by kernel_rfl) (by kernel_rfl) (by kernel_rfl) (fun _ _ _ h=>h) (Or.inr ⟨by rfl,rfl⟩) (by assumption) ?rest37
   try go_frame
   refine wpAnyH_take (i:=38) (oi:=Oper.mk (some 44) _ _ _ _ _) (v:=undef) rfl (by kernel_rfl) (by kernel_rfl) (by kernel_rfl) (fun _ _ _ h=>h) (Or.inr ⟨by rfl,rfl⟩) (by assumption) ?rest38
   try go_frame
   refine wpAnyH_take (i:=39) (oi:=Oper.mk (some 45) _ _ _ _ _) (v:=undef) rfl (by kernel_rfl) (by kernel_rfl) (by kernel_rfl) (fun _ _ _ h=>h) (Or.inr ⟨by rfl,rfl⟩) (by assumption) ?rest39
   try go_frame
   refine wpAnyH_take (i:=40) (oi:=Oper.mk (some 46) _ _ _ _ _) (v:=undef) rfl (by kernel_rfl) (by kernel_rfl) (by kernel_rfl) (fun _ _ _ h=>h) (Or.inr ⟨by rfl,rfl⟩) (by assumption) ?rest40
   try go_frame
   refine wpAnyH_take (i:=41) (oi:=Oper.mk (some 47) _ _ _ _ _) (v:=undef) rfl (by kernel_rfl) (by kernel_rfl) (by kernel_rfl) (fun _ _ _ h=>h) (Or.inr ⟨by rfl,rfl⟩) (by assumption) ?rest41
   try go_frame
   refine wpAnyH_take (i:=42) (oi:=Oper.mk (some 48) _ _ _ _ _) (v:= ?v42) rfl (by kernel_rfl) (by kernel_rfl) (by kernel_rfl) (fun _ _ _ h=>h) (Or.inl ⟨by rfl,?hy42⟩) (by assumption) ?rest42
   case hy42=>(intro X hX;(try dsimp only at hX);go_simp;try with_reducible rfl)
   try go_frame
   refine wpAnyH_done (by kernel_rfl) ?_ _
   have aQ:Hid (Below w.heap.size w w8):=Q
   clear R D aC Q v0 v1 v2 v3 v4 v5 v6 v7 v8 v9 aM aN aO aP q1 aF aG aK
   go_wp2_with fail
   go_ret
   exact SaD.no a6.out aQ.out
 ·have q1:(root.toList == A.toList)=false:=zW W
  have a6:Hid (¬zAT ta tb):=fun h=>W (aH.out.1 h).1
  clear W
  go_enter Tryz.func52,Tryz.ntmps52
  go_wp2_with fail
  go_region
  go_wp2_with fail
  go_ret
  exact SaD.no a6.out (by first|exact (Below.refl _ _).drew|exact Below.refl _ _)
end Go.Proofs.YtlopecgkiikdhaaGreatDoor
