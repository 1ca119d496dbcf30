import Derived.Test.YtlopecgkiikdhaaGreatDoorX27
import Derived.Test.YtlopecgkiikdhaaGreatDoorX28
import Derived.Sort.Walk0
namespace Go.Proofs.YtlopecgkiikdhaaGreatDoor
open Go.RowKit
set_option maxRecDepth 100000
set_option maxHeartbeats 1000000
def tT (t:ByteArray):TT:=(RS.on t).told
def nB (t:ByteArray):Nat:=(zX t).size /(tT t).L.C
def zAT (a b:ByteArray):Prop:=(tT a).root=(tT b).root∧(tT a).lst=(tT b).lst∧(tT a).lv=(tT b).lv
theorem zNc (t:ByteArray)(c:Nat):∀k,jL (pc t c) k=t.data.toList.take (k*c)
 |0=>by simp[jL]
 |k+1=>by
  have e:jL (pc t c) (k+1)=jL (pc t c) k++(pc t c k).data.toList:=by simp[jL,List.range_succ]
  rw[e,zNc t c k]
  unfold pc
  rw[zAu,Nat.succ_mul,Nat.add_sub_cancel_left,List.take_add]
theorem zNd (t:ByteArray)(c k:Nat)(h:t.size=k*c):jT (pc t c) k=t:=by
 apply zHD
 show jL (pc t c) k=_
 rw[zNc,List.take_of_length_le]
 rw[dl];omega
theorem zBv {F G:Nat→ByteArray}{n:Nat}(h:∀i,i<n→F i=G i):jT F n=jT G n:=by
 apply zHD
 show jL F n=jL G n
 unfold jL
 congr 1
 apply List.map_congr_left
 intro i hi
 rw[h i (List.mem_range.1 hi)]
theorem zF5 {cnt V u v:Nat}(h:u<v):(u+1)*cnt/V≤v*cnt/V:=Nat.div_le_div_right (Nat.mul_le_mul_right _ h)
theorem zMY {kt:Nat→Int}{t:ByteArray}(h:rdE kt t=none):(tT t).num <(tT t).L.V∧nB t≤((tT t).num+1)*(tT t).L.cnt /(tT t).L.V -(tT t).first∧(zX t).size≤(((tT t).num+1)*(tT t).L.cnt /(tT t).L.V -(tT t).first)*(tT t).L.C:=by
 obtain⟨_,A,D⟩:=zY h
 have u:zt (tT t):=zAz A
 have j:(zX t).size≤(((tT t).num+1)*(tT t).L.cnt /(tT t).L.V -(tT t).first)*(tT t).L.C:=D
 refine⟨u.num,?_,j⟩
 unfold nB
 exact Nat.le_trans (Nat.div_le_div_right j) (by rw[Nat.mul_div_cancel _ u.c1];exact Nat.le_refl _)
theorem zIK {kt:Nat→Int}{T:TT}{A B:Nat→ByteArray}(h:∀x,x<T.L.cnt→A x=B x)(F:1≤T.L.V){v:Nat}(G:v<T.L.V):reV kt T A v=reV kt T B v:=by
 have hl:∀i,i<T.L.cnt→za (ofT kt) (A i)=za (ofT kt) (B i):=fun i hi=>by rw[h i hi]
 have j:zAX (ofT kt) T.ls T.L.cnt (fun i=>za (ofT kt) (A i))=zAX (ofT kt) T.ls T.L.cnt (fun i=>za (ofT kt) (B i)):=by
  unfold zAX
  rw[zBd (ofT kt) T.L.cnt T.L.cnt _ _ (Nat.le_refl _) hl]
 have u:jT (fun i=>za (ofT kt) (A i)) T.L.cnt=jT (fun i=>za (ofT kt) (B i)) T.L.cnt:=zBv hl
 have D:jT (fun i=>A (v*T.L.cnt/T.L.V+i)) ((v+1)*T.L.cnt/T.L.V-v*T.L.cnt/T.L.V)=jT (fun i=>B (v*T.L.cnt/T.L.V+i)) ((v+1)*T.L.cnt/T.L.V-v*T.L.cnt/T.L.V):=zBv (fun i hi=>by
  refine h _ ?_
  have:(v+1)*T.L.cnt/T.L.V≤T.L.cnt:=Nat.le_trans (Nat.div_le_div_right (Nat.mul_le_mul_right _ G)) (by rw[Nat.mul_div_cancel_left _ F];exact Nat.le_refl _)
  omega)
 unfold reV zIy zA2
 rw[j,u,D]
def KT:List Int:=[1116352408,1899447441,3049323471,3921009573,961987163,1508970993,2453635748,2870763221,3624381080,310598401,607225278,1426881987,1925078388,2162078206,2614888103,3248222580,3835390401,4022224774,264347078,604807628,770255983,1249150122,1555081692,1996064986,2554220882,2821834349,2952996808,3210313671,3336571891,3584528711,113926993,338241895,666307205,773529912,1294757372,1396182291,1695183700,1986661051,2177026350,2456956037,2730485921,2820302411,3259730800,3345764771,3516065817,3600352804,4094571909,275423344,430227734,506948616,659060556,883997877,958139571,1322822218,1537002063,1747873779,1955562222,2024104815,2227730452,2361852424,2428436474,2756734187,3204031479,3329325298]
def kt (j:Nat):Int:=KT.getD j 0
theorem zEk:∀(k:Nat) (s:RS) (nm:ByteArray) (j:Int) (u:List (ByteArray×Nat)),(∀x∈u,x.1.size≤255)→∀x∈(RS.ents k s nm j u).2,x.1.size≤255
 |0,_,_,_,_,h=>h
 |k+1,s,nm,j,u,h=>by
  rw[RS.ents]
  refine zEk k _ _ _ _ (fun x A=> ?_)
  rcases List.mem_append.1 A with A|A
  ·exact h x A
  ·rw[List.mem_singleton]at A
   subst A
   show ((s.num 1 255).1.bytes (s.num 1 255).2).2.size≤255
   have D:(s.num 1 255).2≤255:=zAn s 1 255
   have F:((s.num 1 255).1.bytes (s.num 1 255).2).2.size≤(s.num 1 255).2:=by
    unfold RS.bytes
    split
    ·exact Nat.zero_le _
    ·split
     ·exact Nat.zero_le _
     ·show (ByteArray.extract _ _ _).size≤_
      rw[ByteArray.size_extract];omega
   omega
theorem zFA (s:RS):∀x∈s.told.L.es,x.1.size≤255:=by
 have hl:∀r:RS,∀x∈r.list.es,x.1.size≤255:=fun r=>zEk _ _ _ _ _ (fun x j=>by cases j)
 unfold RS.told
 simp only[]
 split
 ·exact hl _
 ·exact hl _
set_option maxHeartbeats 4000000
theorem OwnF.cells {w:World}{B n:Nat}{v:Value}{F:Nat→Ob}(h:OwnF w B v n F):∃a c,v=.slice a n c∧∀i,i<n→∃g,a=some ⟨g,0,none⟩∧w.cell? ⟨g,i*2,none⟩=some (.string (F i).1)∧w.cell? ⟨g,i*2+1,none⟩=some (.string (F i).2):=by
 rcases Nat.eq_zero_or_pos n with A|A
 ·obtain⟨a,c,u⟩:=zA h
  exact⟨a,c,u,fun i hi=>by omega⟩
 ·obtain⟨g,j,u,_,_,_⟩:=h.at A
  subst u
  exact⟨some ⟨g,0,none⟩,j,rfl,fun i hi=>⟨g,rfl,h.c0 i hi,h.c1 i hi⟩⟩
end Go.Proofs.YtlopecgkiikdhaaGreatDoor
namespace Go.Proofs.YtlopecgkiikdhaaGreatDoor
open Go.RowKit Go.Maps
set_option maxRecDepth 100000
set_option maxHeartbeats 2000000
def zEZ (F:Nat→Ob)(q:Nat):List Ob:=(List.range q).map F
end Go.Proofs.YtlopecgkiikdhaaGreatDoor
namespace Go.Proofs.YtlopecgkiikdhaaGreatDoor
open Go.RowKit
set_option maxRecDepth 100000
set_option maxHeartbeats 4000000
theorem RawT.below {w w':World}{a:Option Addr}{n j:Nat}{L:Nat→ByteArray}(h:RawT w a n j L)(hb:Below w.heap.size w w'):RawT w' a n j L:=by
 rcases h with h|⟨A,rfl,F⟩
 ·exact .inl h
 ·exact .inr ⟨A,rfl,fun i hi=>by
   obtain⟨b,off,e,u,D⟩:=F i hi
   exact⟨b,off,e,Nat.lt_of_lt_of_le u hb.size,(hb.cell (p:=⟨b,off+i,none⟩) u).trans D⟩⟩
theorem zFu (w:World)(x:ByteArray):(w.alloc (.cells #[.string x] 9)).ownsRow w.heap.size 9 1 (.slice (some ⟨w.heap.size,0,none⟩) 1 1) 1 [.string x]:=
 ⟨rfl,.inr ⟨w.heap.size,1,#[.string x],rfl,Nat.le_refl _,heap_alloc_new _ _,Nat.le_refl _,by unfold maxLen;omega,rfl,rfl⟩⟩
theorem zFt {w:World}{B n:Nat}{v:Value}{H:Nat→ByteArray}(h:w.ownsRow B 9 1 v n (tV H n))(R:B≤w.heap.size)(U:n≤1000000)(x:ByteArray):∃j w',(Builtin.append_ #[22,22] 22 #[v,.slice (some ⟨w.heap.size,0,none⟩) 1 1]).run Tryz.prog (w.alloc (.cells #[.string x] 9))=.ok j w'∧w'.ownsRow B 9 1 j (n+1) (tV (fun i=>if i=n then x else H i) (n+1))∧(w.alloc (.cells #[.string x] 9)).grownBy w' v.ownBlock∧(j.ownBlock=v.ownBlock∨j.ownBlock=some (w.heap.size+1)):=by
 obtain⟨W,A,J,N,Q⟩:=info_parts zD1
 obtain⟨j,w',G,F,D,hb⟩:=zV 22 Tryz.underlying22 A J N Q rfl (by decide) (h.alloc (.cells #[.string x] 9)) (zFu w x) (by intro u hu;simp at hu;subst hu;rfl) (by omega) (by omega) (by simp;omega)
 refine⟨j,w',G,?_,D,by simpa using hb⟩
 have e:tV (fun i=>if i=n then x else H i) (n+1)=tV H n++[.string x]:=by
  unfold tV
  rw[List.range_succ,List.map_append]
  congr 1
  ·apply List.map_congr_left
   intro i hi
   show Value.string (if i=n then x else H i)=Value.string (H i)
   rw[if_neg (by have:=List.mem_range.1 hi;omega)]
  ·simp
 rw[e]
 exact F
theorem zIj (H:Nat→ByteArray)(n:Nat)(x:ByteArray):zh (fun i=>if i=n then x else H i) (n+1)=zh H n++[x]:=by
 rw[zg]
 congr 1
 ·unfold zh
  apply List.map_congr_left
  intro i hi
  show (if i=n then x else H i)=H i
  rw[if_neg (by have:=List.mem_range.1 hi;omega)]
 ·simp
def txV (L:Nat→ByteArray)(n:Nat):List Value:=(List.range n).map fun i=>.string (L i)
theorem zGC (L:Nat→ByteArray)(n:Nat):txV L (n+1)=txV L n++[.string (L n)]:=by simp[txV,List.range_succ]
theorem zGY (kt:Nat→Int)(L:Nat→ByteArray)(a:Option Addr)(n Z:Nat)(w:World)(hn:n≤1000000)(hL:∀i,i<n→(L i).size≤1000000)(hG:Gr kt w)(hI:Ins w a n L):
 Calls Tryz.prog 127 #[.slice a n Z] w fun e w'=>∃v,e=.returned v∧w'.ownsRow w.heap.size 9 1 v n (txV (fun i=>za (ofT kt) (L i)) n)∧Below w.heap.size w w':=by
 have HI:Hid _:=hI
 have HL:Hid _:=hL
 have HG:Hid _:=hG
 clear hI hL hG
 obtain⟨i0,a2,a6,a7,a8⟩:=info_parts zAl
 go_enter Tryz.func127,Tryz.ntmps127
 go_wp2
 go_loopw [3,4] (fun ov iv wr=>∃i:Nat,i≤n∧iv=.int .i64 i∧Below w.heap.size w wr∧wr.ownsRow w.heap.size 9 1 ov i (txV (fun i=>za (ofT kt) (L i)) i)) (fun _ iv _=>n-(intOf iv).toNat)
 case atStart=>exact⟨0,by omega,rfl,Below.refl _ _,World.ownsRow_nil _ _ _ _⟩
 case round=>
  obtain⟨i,hi,rfl,hb,U⟩:=hrel
  obtain⟨va,vc,hv⟩:=zA U
  subst hv
  by_cases R:i<n
  ·obtain⟨bb,ha,a1,hc⟩:=HI.out i R
   subst ha
   have HB:Hid (Below w.heap.size w wr):=hb
   have HR:Hid (wr.ownsRow w.heap.size 9 1 (.slice va i vc) i (txV (fun i=>za (ofT kt) (L i)) i)):=U
   have c1:wr.cell? ⟨bb,i,none⟩=some (.string (L i)):=(hb.cell (p:=⟨bb,i,none⟩) a1).trans hc
   have aL:=HL.out i R
   have H1:Hid _:=zCT (L i) wr (by omega)
   have H:Hid _:=zb kt (⟨#[0]⟩++L i) wr (by rw[ByteArray.size_append];have:(⟨#[0]⟩:ByteArray).size=1:=rfl;omega) (HG.out.below hb)
   clear hb U
   go_wp2_with fail
   refine Calls.mono H1.out ?_
   rintro e w0 ⟨rfl,rfl⟩
   go_wp2_with fail
   refine Calls.mono H.out ?_
   rintro e W ⟨rfl,J⟩
   have F:Hid (W.ownsRow w.heap.size 9 1 (.slice va i vc) i (txV (fun i=>za (ofT kt) (L i)) i)):=zI HR.out J
   have D:Hid (Below w.heap.size w W):=HB.out.trans (J.mono HB.out.size)
   clear H H1 c1 J HR HB
   obtain⟨t,ht⟩:∃t,ofT kt (⟨#[0]⟩++L i)=t:=⟨_,rfl⟩
   have X:Hid (za (ofT kt) (L i)=t):=ht
   rw[ht]
   clear ht
   have G:w.heap.size≤(W.alloc (Obj.cells #[Value.string t] 9)).heap.size:=by have:=D.out.size;simp;omega
   go_wp2_with (at_builtin;refine wpList_append_own_at _ rfl (.tmp 18) (.tmp 20) 22 rfl w.heap.size 9 i0 (.string ⟨#[]⟩) 1 16 Tryz.underlying22 a2 a6 a7 a8 rfl (by decide) _ i (txV (fun i=>za (ofT kt) (L i)) i) rfl (F.out.alloc _) ⟨W.heap.size,0,none⟩ 1 1 [.string t] rfl rfl (cell_one_new _ _ _) (by intro u hu;simp at hu;subst hu;rfl) ?kb ?kc G ?_)
   case kb=>unfold maxLen;omega
   case kc=>omega
   intro v' w' A j _ Q
   have N:Below w.heap.size w w':=(D.out.alloc D.out.size _).grown j G (fun g hg=>zK F.out g hg)
   have a4:w'.ownsRow w.heap.size 9 1 v' (i+1) (txV (fun i=>za (ofT kt) (L i)) (i+1)):=by rw[zGC,X.out];exact A
   clear A j Q F D G
   go_wp2
   go_roundw
   case rel=>exact⟨i+1,by omega,by go_num,N,a4⟩
   case measure=>simp[intOf];omega
  ·have e:i=n:=by omega
   subst e
   go_wp2
   go_ret
   exact⟨_,rfl,U,hb⟩
theorem zMN {w:World}{e:TypeId}{size B:Nat}:w.ownsRow B e size (.slice none 0 0) 0 []:=⟨by simp,.inl ⟨rfl,rfl⟩⟩
theorem zHj (F:Nat→ByteArray)(n:Nat):jT F (n+1)=jT F n++F n:=by
 apply ByteArray.ext
 simp[jT,jL,List.range_succ]
theorem zPi (F:Nat→ByteArray):jT F 0=⟨#[]⟩:=by simp[jT,jL]
theorem zG8 (A:ByteArray):A++(⟨#[]⟩:ByteArray)=A:=ByteArray.ext (by simp)
theorem zE8 (kt:Nat→Int)(K M C V v n cL cB:Nat)(l root:ByteArray)(aL aB:Option Addr)(L B:Nat→ByteArray)(w:World)(hV:0<V)(aS:V≤1000)(hv:v<V)(hn:n≤100000)
 (hl:l.size≤1000000000) (hr:root.size≤32) (hL:∀i,i<n→(L i).size≤32) (hB:∀i,i<n→(B i).size≤1000000) (hG:Gr kt w) (aD:Ins w aL n L) (aC:Ins w aB n B):
 Calls Tryz.prog 128 #[.agg #[.int .i64 K,.int .i64 M,.int .i64 C,.int .i64 V],.string l,.string root,.slice aL n cL,.slice aB n cB,.int .i64 v] w fun e w'=>e=.returned (.string (zIy (ofT kt) root l n L B V v))∧Below w.heap.size w w':=by
 have h1:v*n≤100000000:=Nat.le_trans (Nat.mul_le_mul (Nat.le_trans (Nat.le_of_lt hv) aS) hn) (by omega)
 have h2:(v+1)*n≤200000000:=Nat.le_trans (Nat.mul_le_mul (show v+1≤1000 by omega) hn) (by omega)
 have h3:(v+1)*n/V≤n:=by
  rw[Nat.div_le_iff_le_mul_add_pred hV]
  have:(v+1)*n≤V*n:=Nat.mul_le_mul_right n (by omega)
  omega
 have h4:v*n/V≤(v+1)*n/V:=Nat.div_le_div_right (Nat.mul_le_mul_right n (by omega))
 have HT:Hid (∀T,zIy (ofT kt) root l n L B V v=T→zA2 root l n L v++ofT kt (⟨#[3]⟩++zA2 root l n L v)++jT (fun i=>B (v*n/V+i)) ((v+1)*n/V-v*n/V)=T):=fun T h=>h
 obtain⟨T,hT⟩:∃T,zIy (ofT kt) root l n L B V v=T:=⟨_,rfl⟩
 have u:Hid _:=HT.out T hT
 rw[hT]
 clear hT HT
 obtain⟨p,hp⟩:∃p,v*n=p:=⟨_,rfl⟩
 obtain⟨p2,Z⟩:∃p2,(v+1)*n=p2:=⟨_,rfl⟩
 have e1:(v:Int)*(n:Int)=((p:Nat):Int):=by rw[←hp];simp
 have e2:((v:Int)+1)*(n:Int)=((p2:Nat):Int):=by rw[←Z];simp
 have bT:((V:Int) == 0)=false:=by simp;omega
 rw[hp]at h1 h4 u
 rw[Z]at h2 h3 h4 u
 clear hp Z
 have d1:=zAf p V (by omega)
 have d2:=zAf p2 V (by omega)
 obtain⟨q,hq⟩:∃q,p/V=q:=⟨_,rfl⟩
 obtain⟨q2,aY⟩:∃q2,p2/V=q2:=⟨_,rfl⟩
 rw[hq]at d1 h4 u
 rw[aY]at d2 h3 h4 u
 have aN:Hid _:=aD
 have aM:Hid _:=aC
 have HL:Hid _:=hL
 have HB:Hid _:=hB
 have HG:Hid _:=hG
 clear aD aC hL hB hG
 have s1:((⟨#[86,79,76,49]⟩:ByteArray)++root).size≤36:=by rw[ByteArray.size_append];have:(⟨#[86,79,76,49]⟩:ByteArray).size=4:=rfl;omega
 have s2:((⟨#[86,79,76,49]⟩:ByteArray)++root++l).size≤1000000036:=by rw[ByteArray.size_append];omega
 have s3:=zO v
 have HV:Hid _:=fun W=>zCU v W (by omega)
 have a7:Hid (Below w.heap.size w (w.alloc (.cells #[.int .i64 K,.int .i64 M,.int .i64 C,.int .i64 V] 81))):=(Below.refl _ _).alloc (Nat.le_refl _) _
 go_enter Tryz.func128,Tryz.ntmps128
 go_wp2_with fail
 refine Calls.mono (HV.out _) ?_
 rintro e w1 ⟨rfl,N⟩
 have c3:w1.cell? ⟨w.heap.size,3,none⟩=some (.int .i64 V):=(N.cell (p:=⟨w.heap.size,3,none⟩) (by simp)).trans (cell_of_row _ _ _ _ 81 _ (heap_alloc_new w _))
 have J:Hid (Below w.heap.size w w1):=a7.out.trans (N.mono a7.out.size)
 have aF:w.heap.size<w1.heap.size:=Nat.lt_of_lt_of_le (by simp) N.size
 clear N
 obtain⟨A,hA⟩:∃A,(⟨#[86,79,76,49]⟩:ByteArray)++root++l++zm v=A:=⟨_,rfl⟩
 have bM:A.size≤1000000041:=by rw[←hA,ByteArray.size_append];omega
 have a8:Hid (zA2 root l n L v=A++jT L n):=by
  show zMq++root++l++zm v++jT L n=_
  rw[←hA];rfl
 rw[a8.out]at u
 clear a8
 have HA:Hid _:=hA
 go_wp2_with fail
 clear hA s1 s2 s3
 have HJ:Hid (∀i,i≤n→(A++jT L i).size≤1003200041):=fun i hi=>by
  rw[ByteArray.size_append]
  have:=zCI L 32 i (fun j hj=>HL.out j (by omega))
  omega
 go_loop [13,14] (fun sv iv=>∃i:Nat,i≤n∧iv=.int .i64 i∧sv=.string (A++jT L i)) (fun _ iv=>n-(intOf iv).toNat)
 case atStart=>exact⟨0,by omega,rfl,by rw[zPi,zG8]⟩
 case round=>
  obtain⟨i,hi,rfl,rfl⟩:=hrel
  have j1:=HJ.out i hi
  by_cases aE:i<n
  ·obtain⟨bb,ha,X,hc⟩:=aN.out i aE
   subst ha
   have c1:w1.cell? ⟨bb,i,none⟩=some (.string (L i)):=(J.out.cell (p:=⟨bb,i,none⟩) X).trans hc
   have bQ:=HL.out i aE
   have HS:Hid (jT L (i+1)=jT L i++L i):=zHj L i
   go_wp2
   go_round
   case rel=>exact⟨i+1,by omega,by go_num,by rw[HS.out,ByteArray.append_assoc]⟩
   case measure=>simp[intOf];omega
  ·have e:i=n:=by omega
   subst e
   obtain⟨Q,aG⟩:∃Q,A++jT L i=Q:=⟨_,rfl⟩
   rw[aG]at j1 u ⊢
   clear aG HJ HA
   have bW:((⟨#[3]⟩:ByteArray)++Q).size≤1003200042:=by rw[ByteArray.size_append];have:(⟨#[3]⟩:ByteArray).size=1:=rfl;omega
   have H:Hid _:=zb kt (⟨#[3]⟩++Q) w1 (by omega) (HG.out.below J.out)
   have aV:(ofT kt (⟨#[3]⟩++Q)).size≤32:=Nat.le_of_eq (zw kt _)
   go_wp2_with fail
   refine Calls.mono H.out ?_
   rintro e w2 ⟨rfl,U⟩
   obtain⟨D,hD⟩:∃D,ofT kt (⟨#[3]⟩++Q)=D:=⟨_,rfl⟩
   rw[hD]at aV u ⊢
   have c4:w2.cell? ⟨w.heap.size,3,none⟩=some (.int .i64 V):=(U.cell (p:=⟨w.heap.size,3,none⟩) aF).trans c3
   have a6:Hid (Below w.heap.size w w2):=J.out.trans (U.mono J.out.size)
   clear U H hD
   go_wp2_with fail
   rw[d1]
   have hE:(Q++D).size≤1003200100:=by rw[ByteArray.size_append];omega
   obtain⟨E,aA⟩:∃E,Q++D=E:=⟨_,rfl⟩
   rw[aA]at hE u ⊢
   have HK:Hid (∀j,q+j≤i→(E++jT (fun i=>B (q+i)) j).size≤101003200100):=fun j hj=>by
    rw[ByteArray.size_append]
    have:=zCI (fun i=>B (q+i)) 1000000 j (fun k hk=>HB.out _ (by omega))
    omega
   clear aA d1
   go_loop [13,15] (fun sv iv=>∃j:Nat,q+j≤q2∧iv=.int .i64 ((q+j:Nat):Int)∧sv=.string (E++jT (fun i=>B (q+i)) j)) (fun _ iv=>q2-(intOf iv).toNat)
   case atStart=>exact⟨0,by omega,rfl,by rw[zPi,zG8]⟩
   case round=>
    obtain⟨j,hj,rfl,rfl⟩:=hrel
    have j2:=HK.out j (by omega)
    obtain⟨r,a1⟩:∃r,q+j=r:=⟨_,rfl⟩
    have F:Hid (q+j=r):=a1
    rw[a1]at hj ⊢
    clear a1
    by_cases bC:r<q2
    ·obtain⟨bb,ha,X,hc⟩:=aM.out r (by omega)
     subst ha
     have c5:w2.cell? ⟨bb,r,none⟩=some (.string (B r)):=(a6.out.cell (p:=⟨bb,r,none⟩) X).trans hc
     have bO:=HB.out r (by omega)
     have HS:Hid (jT (fun i=>B (q+i)) (j+1)=jT (fun i=>B (q+i)) j++B r):=by
      show jT (fun i=>B (q+i)) (j+1)=_
      rw[zHj,F.out]
     have aW:(r:Int)<wrap64 ((p2:Int)/(V:Int)):=by rw[d2];omega
     have bV:(r:Int)<(i:Int):=by omega
     obtain⟨G,R⟩:∃G,E++jT (fun i=>B (q+i)) j=G:=⟨_,rfl⟩
     have aK:Hid (E++jT (fun i=>B (q+i)) j=G):=R
     rw[R]at j2 ⊢
     clear R
     go_wp2
     go_round
     case rel=>exact⟨j+1,by have:=F.out;omega,by rw[←F.out];go_num,by rw[HS.out,←aK.out,ByteArray.append_assoc]⟩
     case measure=>simp[intOf];omega
    ·have aW:¬((r:Int)<wrap64 ((p2:Int)/(V:Int))):=by rw[d2];omega
     have e:j=q2-q:=by have:=F.out;omega
     rw[←e]at u
     clear e F
     go_wp2
     go_ret
     have hf:=u.out
     clear u
     subst hf
     exact⟨rfl,a6.out⟩
theorem zE6 (K M C V len z:Nat)(w:World)(Q:K*C=z)(Z:0<z)(a1:z≤100000)(hl:len≤100000)(hK:K≤1000)(hM:M≤1000):
 Calls Tryz.prog 49 #[.agg #[.int .i64 K,.int .i64 M,.int .i64 C,.int .i64 V],.int .i64 len] w fun e w'=>e=.returned (.int .i64 (nst z len*(K+M):Nat))∧Below w.heap.size w w':=by
 have e1:(K:Int)*(C:Int)=(z:Int):=by rw[←Q];simp
 have F:(len:Int)+(z:Int)-1=((len+z-1:Nat):Int):=by omega
 have u:((len:Int)+(z:Int)-1)/(z:Int)=(((len+z-1)/z:Nat):Int):=by rw[F,Int.natCast_ediv]
 have X:((z:Int) == 0)=false:=by simp;omega
 have j:nst z len≤200000:=Nat.le_trans (Nat.div_le_self _ _) (by omega)
 have hd:nst z len=(len+z-1)/z:=rfl
 rw[←hd]at u
 obtain⟨n,N⟩:∃n,nst z len=n:=⟨_,rfl⟩
 rw[N]at u j ⊢
 have W:n*(K+M)≤400000000:=Nat.le_trans (Nat.mul_le_mul j (show K+M≤2000 by omega)) (by omega)
 obtain⟨r,D⟩:∃r,n*(K+M)=r:=⟨_,rfl⟩
 have G:(n:Int)*((K:Int)+(M:Int))=(r:Int):=by rw[←D];simp
 have J:((len:Int)+(z:Int)-1)/(z:Int)*((K:Int)+(M:Int))=(r:Int):=by rw[u,G]
 have R:Hid _:=J
 rw[D]at W ⊢
 clear N D Q F u hd G J
 have A:(w.alloc (Obj.cells #[Value.int IntKind.i64 K,Value.int IntKind.i64 M,Value.int IntKind.i64 C,Value.int IntKind.i64 V] 81)).heap[w.heap.size]? =some (.cells #[.int .i64 K,.int .i64 M,.int .i64 C,.int .i64 V] 81 (0,0)):=heap_alloc_new _ _
 have c0:=cell_of_row _ _ 0 _ 81 _ A
 have c1:=cell_of_row _ _ 1 _ 81 _ A
 clear A
 go_enter Tryz.func49,Tryz.ntmps49
 go_wp2
 go_quiet (fail)
 go_wp2
 go_ret
 refine⟨?_,below_drewN ((Below.refl _ _).alloc (Nat.le_refl _) _) nq⟩
 show Ending.returned (.int .i64 (wrap64 (((len:Int)+(z:Int)-1)/(z:Int)*((K:Int)+(M:Int)))))=_
 have U:wrap64 (r:Int)=(r:Int):=by unfold wrap64;omega
 rw[R.out,U]
def hdT (K M C V n:Nat):ByteArray:=⟨#[86,76,84,49]⟩++zm K++zm M++zm C++zm V++zm n
def lsR (h:ByteArray)(Nm:Nat→ByteArray)(Ln:Nat→Nat):Nat→ByteArray
 |0=>h
 |j+1=>lsR h Nm Ln j++zm (Nm j).size++Nm j++zm (Ln j)
theorem zKn (h:ByteArray)(l:List UInt8)(D:h.data.toList=l)(A:Nat→ByteArray)(u:Nat→Nat):∀j,(lsR h A u j).data.toList=zCj l A u j
 |0=>D
 |j+1=>by
  rw[lsR,zCj,←zKn h l D A u j];simp
theorem zNT (K M C V n:Nat):(hdT K M C V n).data.toList=zCh (zEY K M C V n) 5:=by
 unfold hdT
 simp[zCh,zEY,zM1]
theorem zHt (K M C V n:Nat)(u:Nat→ByteArray)(j:Nat→Nat):zA1 K M C V n u j=lsR (hdT K M C V n) u j n:=by
 apply zHF
 rw[zKn (hdT K M C V n) _ (zNT K M C V n)]
 rfl
theorem zDJ (h:ByteArray)(u:Nat→ByteArray)(A:Nat→Nat)(D:∀j,(u j).size≤1000):∀j,(lsR h u A j).size≤h.size+1010*j
 |0=>by simp[lsR]
 |j+1=>by
  have F:=zDJ h u A D j
  have G:=D j
  have J:=zO (u j).size
  have N:=zO (A j)
  rw[lsR,ByteArray.size_append,ByteArray.size_append,ByteArray.size_append];omega
theorem zBR (K M C V n aB:Nat)(a:Option Addr)(D:Nat→ByteArray)(G:Nat→Nat)(w:World)(hK:K≤100000)(hM:M≤100000)(hC:C≤100000)(hV:V≤100000)(hn:n≤100000)(hN:∀j,(D j).size≤1000)(a4:∀j,G j≤100000)
 (hE:∀j,j<n→∃b,a=some ⟨b,0,none⟩∧b<w.heap.size∧w.cell? ⟨b,j*2,none⟩=some (.string (D j))∧w.cell? ⟨b,j*2+1,none⟩=some (.int .i64 (G j))):
 Calls Tryz.prog 79 #[.agg #[.int .i64 K,.int .i64 M,.int .i64 C,.int .i64 V],.slice a n aB] w fun e w'=>e=.returned (.string (zA1 K M C V n D G))∧Below w.heap.size w w':=by
 rw[zHt]
 have HE:Hid _:=hE
 have HN:Hid _:=hN
 have aA:Hid _:=a4
 have vK:=zO K
 have vM:=zO M
 have vC:=zO C
 have vV:=zO V
 have vn:=zO n
 have a6:(⟨#[86,76,84,49]⟩:ByteArray).size=4:=rfl
 have k1:¬(9223372036854775807<4+(zm K).size):=by omega
 have k2:¬(9223372036854775807<4+(zm K).size+(zm M).size):=by omega
 have k3:¬(9223372036854775807<4+(zm K).size+(zm M).size+(zm C).size):=by omega
 have k4:¬(9223372036854775807<4+(zm K).size+(zm M).size+(zm C).size+(zm V).size):=by omega
 have k5:¬(9223372036854775807<4+(zm K).size+(zm M).size+(zm C).size+(zm V).size+(zm n).size):=by omega
 have HH:Hid ((hdT K M C V n).size≤29):=by
  show _≤_
  unfold hdT
  rw[ByteArray.size_append,ByteArray.size_append,ByteArray.size_append,ByteArray.size_append,ByteArray.size_append,a6];omega
 have Z:Hid (Below w.heap.size w (w.alloc (.cells #[.int .i64 K,.int .i64 M,.int .i64 C,.int .i64 V] 81))):=(Below.refl _ _).alloc (Nat.le_refl _) _
 have hO:(w.alloc (.cells #[.int .i64 K,.int .i64 M,.int .i64 C,.int .i64 V] 81)).heap[w.heap.size]? =some (.cells #[.int .i64 K,.int .i64 M,.int .i64 C,.int .i64 V] 81 (0,0)):=heap_alloc_new _ _
 obtain⟨W,a5⟩:∃W,w.alloc (.cells #[.int .i64 K,.int .i64 M,.int .i64 C,.int .i64 V] 81)=W:=⟨_,rfl⟩
 rw[a5]at Z hO
 have d0:W.cell? ⟨w.heap.size,0,none⟩=some (.int .i64 K):=cell_of_row _ _ _ _ 81 _ hO
 have d1:W.cell? ⟨w.heap.size,1,none⟩=some (.int .i64 M):=cell_of_row _ _ _ _ 81 _ hO
 have d2:W.cell? ⟨w.heap.size,2,none⟩=some (.int .i64 C):=cell_of_row _ _ _ _ 81 _ hO
 have d3:W.cell? ⟨w.heap.size,3,none⟩=some (.int .i64 V):=cell_of_row _ _ _ _ 81 _ hO
 have J:w.heap.size<W.heap.size:=(Array.getElem?_eq_some_iff.1 hO).1
 obtain⟨x,hx⟩:∃x,w.heap.size=x:=⟨_,rfl⟩
 have HX:Hid (w.heap.size=x):=hx
 clear hE hN a4 hO
 go_enter Tryz.func79,Tryz.ntmps79
 go_wp2_with fail
 rw[hx]at d0 d1 d2 d3 J
 clear a5 hx
 go_region_held3 (fun N=>N.cell? ⟨x,0,none⟩=some (.int .i64 K)∧N.cell? ⟨x,1,none⟩=some (.int .i64 M)∧N.cell? ⟨x,2,none⟩=some (.int .i64 C)∧N.cell? ⟨x,3,none⟩=some (.int .i64 V)) (go_keep) ((go_at_call 76;refine (zCU _ _ (by omega)).mono ?_;rintro e N ⟨rfl,R⟩;have u:Below W.heap.size W N:=(by first|exact u.trans (R.mono u.size)|exact R|exact ((Below.refl _ _).drew).trans R);have q0:=(u.cell (p:=⟨x,0,none⟩) J).trans d0;have q1:=(u.cell (p:=⟨x,1,none⟩) J).trans d1;have q2:=(u.cell (p:=⟨x,2,none⟩) J).trans d2;have q3:=(u.cell (p:=⟨x,3,none⟩) J).trans d3))
 have a7:Hid (Below w.heap.size w N):=Z.out.trans (u.mono Z.out.size)
 have he:(⟨#[86,76,84,49]⟩:ByteArray)++zm K++zm M++zm C++zm V++zm n=hdT K M C V n:=rfl
 rw[he]
 obtain⟨h,hh⟩:∃h,hdT K M C V n=h:=⟨_,rfl⟩
 have a9:Hid _:=hh
 rw[hh]at HH ⊢
 clear he hh q0 q1 q2 q3 d0 d1 d2 d3 k1 k2 k3 k4 k5 vK vM vC vV vn a6 u R
 go_wp2
 go_loopw [5,6] (fun sv jv wr=>∃j:Nat,j≤n∧jv=.int .i64 j∧sv=.string (lsR h D G j)∧Below w.heap.size w wr) (fun _ jv _=>n-(intOf jv).toNat)
 case atStart=>exact⟨0,by omega,rfl,rfl,a7.out⟩
 case round=>
  obtain⟨j,hj,rfl,rfl,hb⟩:=hrel
  by_cases aK:j<n
  ·obtain⟨b,ha,a2,e0,e1⟩:=HE.out j aK
   subst ha
   have g0:wr.cell? ⟨b,j*2,none⟩=some (.string (D j)):=(hb.cell (p:=⟨b,j*2,none⟩) a2).trans e0
   have g1:wr.cell? ⟨b,j*2+1,none⟩=some (.int .i64 (G j)):=(hb.cell (p:=⟨b,j*2+1,none⟩) a2).trans e1
   have z1:=zDJ h D G HN.out j
   have z2:=HN.out j
   have z3:=zO (D j).size
   have z4:=zO (G j)
   have z5:=aA.out j
   have HS:Hid (lsR h D G (j+1)=lsR h D G j++zm (D j).size++D j++zm (G j)):=rfl
   have aX:=HH.out
   obtain⟨A,hA⟩:∃A,lsR h D G j=A:=⟨_,rfl⟩
   obtain⟨T,hT⟩:∃T,D j=T:=⟨_,rfl⟩
   obtain⟨L,hL⟩:∃L,G j=L:=⟨_,rfl⟩
   rw[hA,hT,hL]at HS
   rw[hA]at z1 ⊢
   rw[hT]at g0 z2 z3
   rw[hL]at g1 z4 z5
   have k1:¬(9223372036854775807<A.size+(zm T.size).size):=by omega
   have k2:¬(9223372036854775807<A.size+(zm T.size).size+T.size):=by omega
   have k3:¬(9223372036854775807<A.size+(zm T.size).size+T.size+(zm L).size):=by omega
   have X:b<wr.heap.size:=Nat.lt_of_lt_of_le a2 hb.size
   have Q:Hid (Below w.heap.size w wr):=hb
   have b3:(0:Int)≤(j:Int):=by omega
   have b4:(j:Int)<(n:Int):=by omega
   clear hA hT hL e0 e1 hb
   go_wp2_with fail
   go_region_held3 (fun N=>N.cell? ⟨b,j*2,none⟩=some (.string T)∧N.cell? ⟨b,j*2+1,none⟩=some (.int .i64 L)) (go_keep) ((go_at_call 76;refine (zCU _ _ (by omega)).mono ?_;rintro e w3 ⟨rfl,U⟩;have F:Below wr.heap.size wr w3:=(by first|exact F.trans (U.mono F.size)|exact U|exact ((Below.refl _ _).drew).trans U);have q0:=(F.cell (p:=⟨b,j*2,none⟩) X).trans g0;have q1:=(F.cell (p:=⟨b,j*2+1,none⟩) X).trans g1))
   have a8:Hid (Below w.heap.size w w3):=Q.out.trans (F.mono Q.out.size)
   clear q0 q1 g0 g1 F U
   go_wp2
   go_roundw
   case rel=>exact⟨j+1,by omega,by go_num,by rw[HS.out],a8.out⟩
   case measure=>simp[intOf];omega
  ·have e:j=n:=by omega
   subst e
   have Q:Hid (Below w.heap.size w wr):=hb
   clear hb
   go_wp2
   go_ret
   exact⟨by rw[a9.out];rfl,Q.out⟩
theorem zLy {w:World}{B n c:Nat}{a:Option Addr}{L:Nat→ByteArray}(h:w.ownsRow B 9 1 (.slice a n c) n (txV L n)):Ins w a n L:=fun i hi=>by
 rcases h.2 with ⟨_,F⟩|⟨g,u,cur,j,hb,D,_⟩
 ·omega
 ·obtain rfl:a=some ⟨g,0,none⟩:=by simp at j;exact j.1
  have A:=h.cellAt i (by omega)
  refine⟨g,rfl,(Array.getElem?_eq_some_iff.1 D).1,A.trans ?_⟩
  simp[txV,hi]
theorem zC0 (kt:Nat→Int)(l:ByteArray)(L:Nat→ByteArray)(n B:Nat)(v:Value)(w:World)(hl:l.size≤1000000000)(N:Gr kt w)(Q:∀i,i<n→(L i).size≤32)(F:w.ownsRow B 9 1 v n (txV L n)):
 Calls Tryz.prog 78 #[.string l,v] w fun e w'=>e=.returned (.string (⟨#[2]⟩++l++zAj (ofT kt) n L))∧Below w.heap.size w w':=by
 refine zGp kt l L n v w hl N Q ?_
 rcases F.2 with ⟨u,J⟩|⟨g,j,cur,G,hb,R,D,A,_⟩
 ·exact .inl ⟨u,J⟩
 ·refine .inr ⟨g,j,G,D,by unfold maxLen at A;omega,(Array.getElem?_eq_some_iff.1 R).1,fun i hi=> ?_⟩
  subst G
  have u:=F.cellAt i (by omega)
  rw[Nat.zero_add]
  refine u.trans ?_
  simp[txV,tI,hi]
theorem zEL (kt:Nat→Int)(K M C V D a7 nB A:Nat)(aE aB:Option Addr)(Q:Nat→ByteArray)(N:Nat→Nat)(Bk:Nat→ByteArray)(w:World)(hK:K≤100000)(hM:M≤100000)(hC:C≤100000)(d4:1≤V)(hV:V≤1000)(d7:D≤1000)
 (hN:∀j,(Q j).size≤1000) (bD:∀j,N j≤100000) (hE:∀j,j<D→∃b,aE=some ⟨b,0,none⟩∧b<w.heap.size∧w.cell? ⟨b,j*2,none⟩=some (.string (Q j))∧w.cell? ⟨b,j*2+1,none⟩=some (.int .i64 (N j)))
 (d6:nB≤10000) (aR:∀i,i<nB→(Bk i).size≤1000) (aS:Ins w aB nB Bk) (hG:Gr kt w):
 Calls Tryz.prog 91 #[.agg #[.int .i64 K,.int .i64 M,.int .i64 C,.int .i64 V],.slice aE D a7,.slice aB nB A] w fun e w'=>∃v,e=.returned (.tuple #[v,.string (zAX (ofT kt) (zA1 K M C V D Q N) nB fun i=>za (ofT kt) (Bk i))])∧
  w'.ownsRow w.heap.size 9 1 v V (txV (zIy (ofT kt) (zAX (ofT kt) (zA1 K M C V D Q N) nB fun i=>za (ofT kt) (Bk i)) (zA1 K M C V D Q N) nB (fun i=>za (ofT kt) (Bk i)) Bk V) V)∧Below w.heap.size w w':=by
 have aY:(zA1 K M C V D Q N).size≤1000000000:=by
  rw[zHt]
  have h1:=zDJ (hdT K M C V D) Q N hN D
  have h2:(hdT K M C V D).size≤29:=by
   have a1:=zO K
   have a2:=zO M
   have a3:=zO C
   have a4:=zO V
   have a5:=zO D
   have a6:(⟨#[86,76,84,49]⟩:ByteArray).size=4:=rfl
   unfold hdT
   rw[ByteArray.size_append,ByteArray.size_append,ByteArray.size_append,ByteArray.size_append,ByteArray.size_append,a6];omega
  omega
 have F:Hid (∀W,Below w.heap.size w W→Calls Tryz.prog 79 #[.agg #[.int .i64 K,.int .i64 M,.int .i64 C,.int .i64 V],.slice aE D a7] W fun e w'=>e=.returned (.string (zA1 K M C V D Q N))∧Below W.heap.size W w'):=fun W hW=>
  zBR K M C V D a7 aE Q N W hK hM hC (by omega) (by omega) hN bD (fun j hj=>by
   obtain⟨b,h1,h2,h3,h4⟩:=hE j hj
   exact⟨b,h1,Nat.lt_of_lt_of_le h2 hW.size,(hW.cell (p:=⟨b,j*2,none⟩) h2).trans h3,(hW.cell (p:=⟨b,j*2+1,none⟩) h2).trans h4⟩)
 have bJ:zAX (ofT kt) (zA1 K M C V D Q N) nB (fun i=>za (ofT kt) (Bk i))=ofT kt (⟨#[2]⟩++zA1 K M C V D Q N++zAj (ofT kt) nB fun i=>za (ofT kt) (Bk i)):=rfl
 have Z:Hid _:=bJ
 obtain⟨l,hl⟩:∃l,zA1 K M C V D Q N=l:=⟨_,rfl⟩
 rw[hl]at aY F Z ⊢
 have bH:(zAX (ofT kt) l nB fun i=>za (ofT kt) (Bk i)).size≤32:=by rw[Z.out];exact Nat.le_of_eq (zw kt _)
 obtain⟨R,hR⟩:∃R,(zAX (ofT kt) l nB fun i=>za (ofT kt) (Bk i))=R:=⟨_,rfl⟩
 rw[hR]at Z bH ⊢
 obtain⟨J,aG⟩:∃J:Nat→ByteArray,(fun i=>za (ofT kt) (Bk i))=J:=⟨_,rfl⟩
 have b5:Hid (∀W,Below w.heap.size w W→Calls Tryz.prog 127 #[.slice aB nB A] W fun e w'=>∃v,e=.returned v∧w'.ownsRow W.heap.size 9 1 v nB (txV J nB)∧Below W.heap.size W w'):=fun W hW=>by
  rw[←aG]
  exact zGY kt Bk aB nB A W (by omega) (fun i hi=>Nat.le_trans (aR i hi) (by omega)) (hG.below hW) (fun i hi=>by
   obtain⟨b,h1,h2,h3⟩:=aS i hi
   exact⟨b,h1,Nat.lt_of_lt_of_le h2 hW.size,(hW.cell (p:=⟨b,i,none⟩) h2).trans h3⟩)
 have aN:Hid (∀i,(J i).size≤32):=fun i=>by rw[←aG];exact Nat.le_of_eq (zw kt _)
 rw[aG]at Z ⊢
 obtain⟨U,aT⟩:∃U:Nat→ByteArray,zIy (ofT kt) R l nB J Bk V=U:=⟨_,rfl⟩
 have bY:Hid _:=aT
 rw[aT]
 clear aT
 have bW:Hid _:=aS
 have bU:Hid _:=aR
 have HG:Hid _:=hG
 obtain⟨i9,cA,z0,z1,z2⟩:=info_parts zAl
 have aD:Hid (Below w.heap.size w (w.alloc (.cells #[.int .i64 K,.int .i64 M,.int .i64 C,.int .i64 V] 81))):=(Below.refl _ _).alloc (Nat.le_refl _) _
 have hO:(w.alloc (.cells #[.int .i64 K,.int .i64 M,.int .i64 C,.int .i64 V] 81)).heap[w.heap.size]? =some (.cells #[.int .i64 K,.int .i64 M,.int .i64 C,.int .i64 V] 81 (0,0)):=heap_alloc_new _ _
 have HO:Hid _:=hO
 clear hl hR aG bJ hE hN bD aS aR hG hO
 go_enter Tryz.func91,Tryz.ntmps91
 go_wp2_with fail
 refine Calls.mono (F.out _ aD.out) ?_
 rintro e w1 ⟨rfl,aV⟩
 have a9:Hid (Below w.heap.size w w1):=aD.out.trans (aV.mono aD.out.size)
 have aO:Hid (w1.heap[w.heap.size]? =some (.cells #[.int .i64 K,.int .i64 M,.int .i64 C,.int .i64 V] 81 (0,0))):=by
  show _=_
  rw[aV.block _ (by simp)];exact HO.out
 clear aV HO
 go_wp2_with fail
 refine Calls.mono (b5.out _ a9.out) ?_
 rintro e w2 ⟨v2,rfl,aZ,aW⟩
 have aA:Hid (Below w.heap.size w w2):=a9.out.trans (aW.mono a9.out.size)
 have aP:Hid (w2.heap[w.heap.size]? =some (.cells #[.int .i64 K,.int .i64 M,.int .i64 C,.int .i64 V] 81 (0,0))):=by
  show _=_
  rw[aW.block _ (Array.getElem?_eq_some_iff.1 aO.out).1];exact aO.out
 obtain⟨aL,cL,cF⟩:=zA aZ
 subst cF
 have X:Hid _:=aZ
 clear aW aO a9 aZ
 go_wp2_with fail
 refine (zC0 kt l J nB _ _ w2 aY (HG.out.below aA.out) (fun i _=>aN.out i) X.out).mono ?_
 rintro e w3 ⟨rfl,aH⟩
 have aC:Hid (Below w.heap.size w w3):=aA.out.trans (aH.mono aA.out.size)
 have aQ:Hid (w3.heap[w.heap.size]? =some (.cells #[.int .i64 K,.int .i64 M,.int .i64 C,.int .i64 V] 81 (0,0))):=by
  show _=_
  rw[aH.block _ (Array.getElem?_eq_some_iff.1 aP.out).1];exact aP.out
 have aJ:Hid _:=zI X.out aH
 have cG:(zAj (ofT kt) nB J).size≤35184372088832:=zAe (ofT kt) 35184372088832 (zBm kt) nB J (fun i _=>Nat.le_trans (aN.out i) (by omega))
 have bF:((⟨#[2]⟩:ByteArray)++l++zAj (ofT kt) nB J).size≤140737488351232:=by
  rw[ByteArray.size_append,ByteArray.size_append]
  have:(⟨#[2]⟩:ByteArray).size=1:=rfl
  omega
 have aF:Hid _:=zb kt (⟨#[2]⟩++l++zAj (ofT kt) nB J) w3 bF (HG.out.below aC.out)
 rw[←Z.out]at aF
 obtain⟨tx,bL⟩:∃tx,(⟨#[2]⟩:ByteArray)++l++zAj (ofT kt) nB J=tx:=⟨_,rfl⟩
 rw[bL]at aF ⊢
 clear aH aP aA X bL cG bF
 go_wp2_with fail
 refine Calls.mono aF.out ?_
 rintro e u ⟨rfl,aI⟩
 have b2:Hid (Below w.heap.size w u):=aC.out.trans (aI.mono aC.out.size)
 have b6:Hid (u.heap[w.heap.size]? =some (.cells #[.int .i64 K,.int .i64 M,.int .i64 C,.int .i64 V] 81 (0,0))):=by
  show _=_
  rw[aI.block _ (Array.getElem?_eq_some_iff.1 aQ.out).1];exact aQ.out
 have aK:Hid _:=zI aJ.out aI
 have cI:w.heap.size<u.heap.size:=(Array.getElem?_eq_some_iff.1 b6.out).1
 have bB:Hid (w.heap.size≤u.heap.size):=b2.out.size
 clear aI aQ aC aJ aF F b5 aD
 go_wp2_with fail
 go_loopw [11,12] (fun ov vv wr=>∃(v:Nat) (oo:Value),v≤V∧oo=ov∧vv=.int .i64 v∧wr.ownsRow u.heap.size 9 1 oo v (txV U v)∧Below u.heap.size u wr) (fun _ vv _=>V-(intOf vv).toNat)
 case atStart=>exact⟨0,_,by omega,rfl,rfl,zMN,Below.refl _ _⟩
 case round=>
  obtain⟨v,oo,hv,rfl,rfl,ho,hb⟩:=hrel
  obtain⟨ao,co,hs⟩:=zA ho
  subst hs
  have hr:wr.heap[w.heap.size]? =some (.cells #[.int .i64 K,.int .i64 M,.int .i64 C,.int .i64 V] 81 (0,0)):=by rw[hb.block _ cI];exact b6.out
  have p0:wr.cell? ⟨w.heap.size,0,none⟩=some (.int .i64 K):=cell_of_row _ _ _ _ 81 _ hr
  have p1:wr.cell? ⟨w.heap.size,1,none⟩=some (.int .i64 M):=cell_of_row _ _ _ _ 81 _ hr
  have p2:wr.cell? ⟨w.heap.size,2,none⟩=some (.int .i64 C):=cell_of_row _ _ _ _ 81 _ hr
  have p3:wr.cell? ⟨w.heap.size,3,none⟩=some (.int .i64 V):=cell_of_row _ _ _ _ 81 _ hr
  have b9:Hid (wr.ownsRow u.heap.size 9 1 (.slice ao v co) v (txV U v)):=ho
  have b4:Hid (Below u.heap.size u wr):=hb
  have G:Hid (Below w.heap.size w wr):=b2.out.trans (hb.mono bB.out)
  by_cases cB:v<V
  ·have bA:Hid (Calls Tryz.prog 128 #[.agg #[.int .i64 K,.int .i64 M,.int .i64 C,.int .i64 V],.string l,.string R,.slice aL nB cL,.slice aB nB A,.int .i64 v] wr fun e w'=>e=.returned (.string (U v))∧Below wr.heap.size wr w'):=by
    rw[←bY.out]
    exact zE8 kt K M C V v nB cL A l R aL aB J Bk wr (by omega) (by omega) cB (by omega) aY bH (fun i _=>aN.out i) (fun i hi=>Nat.le_trans (bU.out i hi) (by omega)) (HG.out.below G.out)
     (zLy (zMP aK.out (fun r hr=>zG aK.out r hr) b4.out)) (fun i hi=>by
       obtain⟨b,h1,h2,h3⟩:=bW.out i hi
       exact⟨b,h1,Nat.lt_of_lt_of_le h2 G.out.size,(G.out.cell (p:=⟨b,i,none⟩) h2).trans h3⟩)
   have HT:Hid (txV U (v+1)=txV U v++[.string (U v)]):=zGC U v
   have cC:v+1≤maxLen:=by unfold maxLen;omega
   have cD:(v+1)*16≤140737488355328:=by omega
   have cH:u.heap.size≤wr.heap.size:=hb.size
   clear ho hb hr
   go_wp2_with fail
   refine Calls.mono bA.out ?_
   rintro e w5 ⟨rfl,aX⟩
   obtain⟨tv,bK⟩:∃tv,U v=tv:=⟨_,rfl⟩
   rw[bK]at HT ⊢
   have b7:Hid (w5.ownsRow u.heap.size 9 1 (.slice ao v co) v (txV U v)):=zI b9.out aX
   have b3:Hid (Below u.heap.size u w5):=b4.out.trans (aX.mono cH)
   have bM:u.heap.size≤w5.heap.size:=b3.out.size
   clear bK aX p0 p1 p2 p3 bA
   go_wp2_with (at_builtin;refine wpList_append_own _ rfl (.tmp 36) (.tmp 38) 22 rfl u.heap.size 9 i9 (.string ⟨#[]⟩) 1 16 Tryz.underlying22 cA z0 z1 z2 rfl (by decide) (.slice ao v co) v (txV U v) (by simp[Act.eval]) (by exact b7.out.alloc _) ⟨w5.heap.size,0,none⟩ 1 1 [.string tv] (by simp[Act.eval]) rfl (by exact zAU _ [.string tv] 9) (zDc _) cC cD (by simp;omega) ?_;intro v6 w6 bG bE cE;clear cE)
   have bT:Hid (Below u.heap.size u w6):=(b3.out.alloc bM _).grown bE (by simp;omega) (fun q hq=>zK b7.out q hq)
   have bX:Hid _:=bG
   clear bG bE
   go_wp2
   go_roundw
   case rel=>exact⟨v+1,_,by omega,rfl,by go_num,by rw[HT.out];exact bX.out,bT.out⟩
   case measure=>simp[intOf];omega
  ·have e:v=V:=by omega
   subst e
   clear ho hb hr p0 p1 p2
   go_wp2
   go_ret2
   exact⟨_,rfl,zAJ b9.out bB.out,G.out⟩
end Go.Proofs.YtlopecgkiikdhaaGreatDoor
