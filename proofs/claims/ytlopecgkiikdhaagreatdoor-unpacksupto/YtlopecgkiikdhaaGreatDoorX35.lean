import Derived.Test.YtlopecgkiikdhaaGreatDoorX34
namespace Go.Proofs.YtlopecgkiikdhaaGreatDoor
open Go.RowKit
set_option maxRecDepth 100000
set_option maxHeartbeats 1000000
theorem zKm {F:Nat→ByteArray}{C n i k:Nat}(u:∀j,j<n→(F j).size=C)(hi:i<n)(hk:k<C):(jL F n).getD (i*C+k) 0=(F i).data.toList.getD k 0:=by
 obtain⟨r,e⟩:=zFe F n i hi
 have hl:=zHh F C i (fun j A=>u j (by omega))
 rw[e,List.append_assoc,List.getD_eq_getElem?_getD,List.getD_eq_getElem?_getD,List.getElem?_append_right (by omega),hl,Nat.add_sub_cancel_left,List.getElem?_append_left (by rw[dl,u i hi];exact hk)]
theorem zK2 {A:Nat→ByteArray}{K C s len:Nat}(J:∀i,i<K→(A i).size=C)(R:1≤C):AllZ (tlT A K C s len)↔∀i,i<K→∀k,k<C→len≤s*(K*C)+i*C+k→(A i).data.toList.getD k 0=0:=by
 have hz:(jT A K).size=K*C:=zLz A C K J
 obtain⟨e,U⟩:∃e,min (len-s*(K*C)) (K*C)=e:=⟨_,rfl⟩
 have F:(tlT A K C s len).size=K*C-e:=by unfold tlT;rw[ByteArray.size_extract,hz,Nat.min_self,U]
 have D:∀j (u:j<(tlT A K C s len).size),(tlT A K C s len)[j]=(jL A K).getD (e+j) 0:=fun j u=>by
  rw[zDB u]
  rw[F]at u
  unfold tlT
  rw[U,zLd _ _ _ _ u]
  show ((jL A K).toArray).toList.getD _ 0=_
  rw[List.toList_toArray]
 constructor
 ·intro h i hi k hk a2
  have hp:i*C+k<K*C:=by
   have:(i+1)*C≤K*C:=Nat.mul_le_mul_right _ hi
   rw[Nat.succ_mul]at this;omega
  have u:i*C+k-e<(tlT A K C s len).size:=by rw[F];omega
  have G:=h _ u
  rw[D _ u,show e+(i*C+k-e)=i*C+k by omega,zKm J hi hk]at G
  exact UInt8.toNat_inj.1 G
 ·intro h j u
  have a1:j<K*C-e:=by rw[←F];exact u
  rw[D j u]
  have G:=Nat.div_add_mod (e+j) C
  have N:=Nat.mod_lt (e+j) R
  have Q:(e+j)/C<K:=(Nat.div_lt_iff_lt_mul R).2 (by omega)
  rw[Nat.mul_comm]at G
  have Z:=h ((e+j)/C) Q ((e+j)%C) N (by omega)
  rw[←G,zKm J Q N,Z]
  rfl
def okJ (kt:Nat→Int)(K C:Nat)(lv:ByteArray)(o s len:Nat)(S:Nat→ByteArray)(h:Nat→Bool)(A:Nat→ByteArray)(i:Nat):Prop:=
 za (ofT kt) (A i)=pc lv 32 (o+i)∧(h i=true→A i=S i)∧(i<K→∀k,k<C→len≤s*(K*C)+i*C+k→(A i).data.toList.getD k 0=0)
theorem zNK {kt:Nat→Int}{K M C:Nat}{lv:ByteArray}{s len:Nat}{S:Nat→ByteArray}{h:Nat→Bool}{A:Nat→ByteArray}(G:1≤C)(u:∀i,i<K+M→(A i).size=C)(j:∀i,i<K+M→okJ kt K C lv (s*(K+M)) s len S h A i):frg kt K M C lv s len S h A=false:=by
 unfold frg
 rw[if_pos (fun i hi=> ?_)]
 ·rw[decide_eq_false_iff_not,Decidable.not_not,zK5,zK2 (fun i hi=>u i (by omega)) G]
  intro i hi
  exact (j i (by omega)).2.2 hi
 ·obtain⟨D,F,_⟩:=j i hi
  unfold okI zAG
  rw[u i hi,D]
  cases hh:h i with
  |false=>simp
  |true=>rw[F hh];simp
theorem zLf {kt:Nat→Int}{K M C:Nat}{lv:ByteArray}{s len:Nat}{S:Nat→ByteArray}{h:Nat→Bool}{A:Nat→ByteArray}(N:1≤C)(J:∀i,i<K+M→(A i).size=C){i:Nat}(hi:i<K+M)(u:¬okJ kt K C lv (s*(K+M)) s len S h A i):frg kt K M C lv s len S h A=true:=by
 unfold frg
 split
 ·rename_i hall
  rw[decide_eq_true_iff]
  intro e
  rw[zK5,zK2 (fun i hi=>J i (by omega)) N]at e
  have j:=hall i hi
  unfold okI zAG at j
  rw[Bool.and_eq_true]at j
  obtain⟨F,D⟩:=j
  have G:=(of_decide_eq_true F).2
  refine u ⟨G,fun Q=> ?_,fun hk=>e i hk⟩
  rw[Q]at D
  simpa using D
 ·rfl
theorem zNt {S:Nat→ByteArray}{h:Nat→Bool}{k m c:Nat}(j:k+m≤255)(F:k≤cnt h (k+m))(A:∀i,i<k+m→h i=true→(S i).size=c){x:Nat}(D:x<k+m):mdT S h k m c x=zCz S (gt (knL h k (k+m))) k c x:=by
 have hk:(knL h k (k+m)).length=k:=by rw[zCJ];omega
 have u:=zGP S h k (k+m) c j hk A x D
 rw[zKp]at u
 exact Value.string.inj u
theorem zIP (B:Nat→ByteArray)(p:Nat→Nat)(k c x:Nat):(zCz B p k c x).size=c:=zET c _
theorem zDC (h:Nat→Bool):∀n,(hsL h n).length=cnt h n
 |0=>rfl
 |n+1=>by
  rw[hsL,cnt]
  split
  ·rw[List.length_append,zDC h n];rfl
  ·rw[zDC h n];rfl
theorem zNG {kt:Nat→Int}{T:TT}{bl:Nat→ByteArray}{s:Nat}(h:cnt (stH kt T bl s) (T.L.K+T.L.M)<T.L.K):stF kt T bl s=1:=by
 unfold stF zEl
 rw[if_pos h]
theorem zNH {kt:Nat→Int}{T:TT}{bl:Nat→ByteArray}{s:Nat}(h:T.L.K≤cnt (stH kt T bl s) (T.L.K+T.L.M))(hf:frg kt T.L.K T.L.M T.L.C T.lv s (zM T.L.es) (stS T bl s) (stH kt T bl s) (stM kt T bl s)=true):stF kt T bl s=2:=by
 unfold stF zEl
 rw[if_neg (by omega)]
 have:frg kt T.L.K T.L.M T.L.C T.lv s (zM T.L.es) (stS T bl s) (stH kt T bl s) (mdT (stS T bl s) (stH kt T bl s) T.L.K T.L.M T.L.C)=true:=hf
 rw[if_pos this]
theorem zNF {kt:Nat→Int}{T:TT}{bl:Nat→ByteArray}{s:Nat}(h:T.L.K≤cnt (stH kt T bl s) (T.L.K+T.L.M))(hf:frg kt T.L.K T.L.M T.L.C T.lv s (zM T.L.es) (stS T bl s) (stH kt T bl s) (stM kt T bl s)=false):stF kt T bl s=0:=by
 unfold stF zEl
 rw[if_neg (by omega)]
 have:frg kt T.L.K T.L.M T.L.C T.lv s (zM T.L.es) (stS T bl s) (stH kt T bl s) (mdT (stS T bl s) (stH kt T bl s) T.L.K T.L.M T.L.C)=false:=hf
 rw[this]
 rfl
set_option maxHeartbeats 4000000
structure RB (kt:Nat→Int)(B v:Nat)(vH vU:Value)(hs:List (ByteArray×Nat))(un:List Nat)(w:World):Prop where
 row:w.heap[v]? =some (.cells #[vH,vU] 76 (0,0))
 oH:w.ownsRow B 77 1 vH (hs.map Prod.snd).length (ptV (hs.map Prod.snd))
 oU:w.ownsRow B 3 1 vU un.length (unV un)
 hd:∀x∈hs,RHd kt B x.1 x.2 w
 lv:B≤v
theorem RV.rb {kt:Nat→Int}{j:World}{v:Nat}{vH vU:Value}{hs:List (ByteArray×Nat)}{un:List Nat}{w:World}(h:RV kt j v vH vU hs un w):RB kt j.heap.size v vH vU hs un w:=⟨h.row,h.oH,h.oU,h.hd,h.lv⟩
theorem RB.kept {kt:Nat→Int}{B v:Nat}{vH vU:Value}{hs:List (ByteArray×Nat)}{un:List Nat}{w w':World}(h:RB kt B v vH vU hs un w)(hk:∀j,B≤j→j<w.heap.size→w'.heap[j]? =w.heap[j]?):RB kt B v vH vU hs un w' where
 row:=by rw[hk v h.lv (Array.getElem?_eq_some_iff.1 h.row).1];exact h.row
 oH:=zD h.oH (fun q u=>hk q (zK h.oH q u) (zG h.oH q u))
 oU:=zD h.oU (fun q u=>hk q (zK h.oU q u) (zG h.oU q u))
 hd:=fun x G=>by
  obtain⟨F,A,vE,vL,vB,D,oE,oL,oB⟩:=h.hd x G
  exact⟨F,A,vE,vL,vB,by rw[hk x.2 A (Array.getElem?_eq_some_iff.1 D).1];exact D,zD oE (fun q u=>hk q (zK oE q u) (zG oE q u)),zD oL (fun q u=>hk q (zK oL q u) (zG oL q u)),zD oB (fun q u=>hk q (zK oB q u) (zG oB q u))⟩
 lv:=h.lv
theorem RB.low {kt:Nat→Int}{B v:Nat}{vH vU:Value}{hs:List (ByteArray×Nat)}{un:List Nat}{w w':World}(h:RB kt B v vH vU hs un w)(hb:Below w.heap.size w w'):RB kt B v vH vU hs un w':=h.kept (fun j _ u=>hb.block j u)
theorem RHd.blocks {kt:Nat→Int}{B:Nat}{t:ByteArray}{h:Nat}{w:World}(H:RHd kt B t h w):∃j u,w.cell? ⟨h,8,none⟩=some (.int .i64 ((tT t).first:Nat))∧w.cell? ⟨h,9,none⟩=some (.slice j (nB t) u)∧∀i,i<nB t→∃g,j=some ⟨g,0,none⟩∧w.cell? ⟨g,i,none⟩=some (.string (pc (zX t) (tT t).L.C i)):=by
 obtain⟨_,_,vE,vL,vB,D,_,_,oB⟩:=H
 have A:w.ownsRow B 9 1 vB (nB t) (tV (pc (zX t) (tT t).L.C) (nB t)):=oB
 obtain⟨j,u,rfl⟩:=zA A
 refine⟨j,u,cell_of_row _ _ _ _ 84 _ D,cell_of_row _ _ _ _ 84 _ D,fun i hi=> ?_⟩
 obtain⟨g,e,_,F⟩:=zDd A hi
 exact⟨g,e,F⟩
def FnD (hs:List ByteArray)(n:Nat)(w:World)(e:Ending)(w':World):Prop:=e=.returned (.tuple #[.string (blH hs n),.bool (zG2 hs n)])∧Below w.heap.size w w'
theorem FnD.yes {kt:Nat→Int}{t0:ByteArray}{hs:List ByteArray}(h:RSet kt t0 hs){i n:Nat}{t b:ByteArray}{w w':World}(u:hs[i]? =some t)(j:Cov t n)(hb:pc (zX t) (tT t).L.C (n-(tT t).first)=b)(A:Below w.heap.size w w'):FnD hs n w (.returned (.tuple #[.string b,.bool true])) w':=by
 refine⟨?_,A⟩
 rw[h.bl_yes u j,zFT (List.mem_of_getElem? u) j,hb]
theorem FnD.no {hs:List ByteArray}{n:Nat}{w w':World}(h:∀t∈hs,¬Cov t n)(j:Below w.heap.size w w'):FnD hs n w (.returned (.tuple #[.string ⟨#[]⟩,.bool false])) w':=by
 refine⟨?_,j⟩
 rw[zM8 h,zLU h]
theorem zN1 (kt:Nat→Int)(B v:Nat)(vH vU:Value)(hp:List (ByteArray×Nat))(un:List Nat)(t0:ByteArray)(n:Nat)(w:World)(H:RB kt B v vH vU hp un w)(hS:RSet kt t0 (hp.map Prod.fst))(hn:n≤100000)(hl:hp.length≤100000000):
 Calls Tryz.prog 121 #[.pointer (some ⟨v,0,none⟩),.int .i64 n] w fun e w'=>FnD (hp.map Prod.fst) n w e w':=by
 have HV:Hid _:=H
 have HS:Hid _:=hS
 obtain⟨aH,cH,aJ⟩:=zA H.oH
 subst aJ
 obtain⟨m,hm⟩:∃x,(hp.map Prod.snd).length=x:=⟨_,rfl⟩
 have a4:hp.length=m:=by rw[←hm];simp
 have aC:Hid (∀(X:World) (j:Nat) (x:ByteArray×Nat),Below w.heap.size w X→hp[j]? =some x→∃g,aH=some ⟨g,0,none⟩∧X.cell? ⟨g,j,none⟩=some (.pointer (some ⟨x.2,0,none⟩))∧RHd kt B x.1 x.2 X):=fun X j x hX G=>by
  have hR:=HV.out.low hX
  obtain⟨g,e,hc⟩:=zB1 hR.oH (i:=j) (x:=x.2) (by rw[List.getElem?_map,G];rfl)
  exact⟨g,e,hc,hR.hd x (List.mem_of_getElem? G)⟩
 have a9:Hid (∀X:World,Below w.heap.size w X→X.cell? ⟨v,0,none⟩=some (.slice aH m cH)):=fun X hX=>by rw[←hm];exact cell_of_row _ _ _ _ 76 _ (HV.out.low hX).row
 have Z:Hid _:=a4
 have aZ:m≤100000000:=by omega
 clear H hS hm a4 hl
 go_enter Tryz.func121,Tryz.ntmps121
 go_wp2_with fail
 go_loopw [6,7] (fun iv _ wr=>∃i:Nat,i≤m∧iv=.int .i64 i∧(∀j x,j<i→hp[j]? =some x→¬Cov x.1 n)∧Below w.heap.size w wr) (fun iv _ _=>m-(intOf iv).toNat)
 case atStart=>exact⟨0,Nat.zero_le _,rfl,fun j x hj=>by omega,Below.refl _ _⟩
 case round=>
  obtain⟨i,hi,rfl,hE,N⟩:=hrel
  have HE:Hid _:=hE
  have A:Hid (Below w.heap.size w wr):=N
  have a0:=a9.out wr N
  clear hE N
  by_cases aY:i<m
  ·have a2:(i:Int)<(m:Int):=by omega
   obtain⟨x,G⟩:∃x,hp[i]? =some x:=⟨_,List.getElem?_eq_getElem (by have:=Z.out;omega)⟩
   obtain⟨g,rfl,c0,hh⟩:=aC.out wr i x A.out G
   obtain⟨aB,cB,d8,d9,Q⟩:=hh.blocks
   obtain⟨f,hf⟩:∃y,(tT x.1).first=y:=⟨_,rfl⟩
   obtain⟨b,hb⟩:∃y,nB x.1=y:=⟨_,rfl⟩
   have aX:f+b≤100000:=by
    have h1:=(zDh hh.1).2
    have h2:=(zAz (zY hh.1).2.1:zt (tT x.1)).cnt
    have h3:(tT x.1).first+nB x.1≤(tT x.1).L.cnt:=h1
    have h4:(tT x.1).L.cnt≤512:=h2
    omega
   have HX:Hid (hp[i]? =some x):=G
   have F:Hid _:=hf
   have J:Hid _:=hb
   rw[hf]at d8
   rw[hb]at d9 Q
   clear G hh hf hb
   by_cases h1:f≤n
   ·have p1:decide ((f:Int)≤(n:Int))=true:=by simp;omega
    have p5:(f:Int)≤(n:Int):=by omega
    by_cases h2:n<f+b
    ·obtain⟨g2,rfl,e0⟩:=Q (n-f) (by omega)
     obtain⟨bt,R⟩:∃y,pc (zX x.1) (tT x.1).L.C (n-f)=y:=⟨_,rfl⟩
     rw[R]at e0
     have a8:Hid _:=R
     clear R Q
     have p2:decide ((n:Int)<(f:Int)+(b:Int))=true:=by simp;omega
     have p4:((n-f:Nat):Int)<(b:Int):=by omega
     have p6:(n:Int)<(f:Int)+(b:Int):=by omega
     go_wp2_with fail
     go_quiet (fail)
     obtain⟨X2,u⟩:∃X,wr.drewN nq=X:=⟨_,rfl⟩
     have a7:Hid (Below w.heap.size w X2):=by show Below _ _ _;rw[←u];exact below_drewN A.out nq
     have y8:X2.cell? ⟨x.2,8,none⟩=some (.int .i64 f):=by rw[←u];exact d8
     have y9:X2.cell? ⟨x.2,9,none⟩=some (.slice (some ⟨g2,0,none⟩) b cB):=by rw[←u];exact d9
     have z0:X2.cell? ⟨g2,n-f,none⟩=some (.string bt):=by rw[←u];exact e0
     have p3:(n:Int)-(f:Int)=((n-f:Nat):Int):=by omega
     rw[u]
     clear u a0 c0 d8 d9 e0
     go_wp2_with fail
     go_quiet (fail)
     go_wp2_with fail
     go_ret2
     exact FnD.yes HS.out (by rw[List.getElem?_map,HX.out];rfl) (by unfold Cov;rw[F.out,J.out];omega) (by rw[F.out];exact a8.out) (below_drewN a7.out _)
    ·have p2:decide ((n:Int)<(f:Int)+(b:Int))=false:=by simp;omega
     have p6:¬(n:Int)<(f:Int)+(b:Int):=by omega
     have D:Hid (∀j y,j<i+1→hp[j]? =some y→¬Cov y.1 n):=fun j y hj U=>by
      by_cases e:j=i
      ·rw[e,HX.out]at U
       cases U
       unfold Cov
       rw[F.out,J.out]
       omega
      ·exact HE.out j y (by omega) U
     go_wp2_with fail
     go_quiet (fail)
     go_wp2_with fail
     go_roundw
     case rel=>exact⟨i+1,by omega,by go_num,D.out,below_drewN A.out _⟩
     case measure=>simp[intOf];omega
   ·have p1:decide ((f:Int)≤(n:Int))=false:=by simp;omega
    have p5:¬(f:Int)≤(n:Int):=by omega
    have D:Hid (∀j y,j<i+1→hp[j]? =some y→¬Cov y.1 n):=fun j y hj U=>by
     by_cases e:j=i
     ·rw[e,HX.out]at U
      cases U
      unfold Cov
      rw[F.out,J.out]
      omega
     ·exact HE.out j y (by omega) U
    go_wp2_with fail
    go_quiet (fail)
    go_wp2_with fail
    go_roundw
    case rel=>exact⟨i+1,by omega,by go_num,D.out,below_drewN A.out _⟩
    case measure=>simp[intOf];omega
  ·have a2:¬(i:Int)<(m:Int):=by omega
   have D:Hid (∀t∈hp.map Prod.fst,¬Cov t n):=fun t ht=>by
    obtain⟨x,G,rfl⟩:=List.mem_map.1 ht
    obtain⟨j,hj⟩:=List.getElem?_of_mem G
    exact HE.out j x (by have:=(List.getElem?_eq_some_iff.1 hj).1;have:=Z.out;omega) hj
   go_wp2_with fail
   go_ret2
   exact FnD.no D.out A.out
theorem RHd.leaves {kt:Nat→Int}{B:Nat}{t:ByteArray}{h:Nat}{w:World}(H:RHd kt B t h w):∃j u,w.cell? ⟨h,7,none⟩=some (.slice j (tT t).L.cnt u)∧∀i,i<(tT t).L.cnt→∃g,j=some ⟨g,0,none⟩∧w.cell? ⟨g,i,none⟩=some (.string (pc (tT t).lv 32 i)):=by
 obtain⟨_,_,vE,vL,vB,F,_,oL,_⟩:=H
 have A:w.ownsRow B 9 1 vL (tT t).L.cnt (tV (pc (tT t).lv 32) (tT t).L.cnt):=oL
 obtain⟨j,u,rfl⟩:=zA A
 refine⟨j,u,cell_of_row _ _ _ _ 84 _ F,fun i hi=> ?_⟩
 obtain⟨g,e,_,D⟩:=zDd A hi
 exact⟨g,e,D⟩
theorem RHd.nums {kt:Nat→Int}{B:Nat}{t:ByteArray}{h:Nat}{w:World}(H:RHd kt B t h w):w.cell? ⟨h,0,none⟩=some (.int .i64 ((tT t).L.K:Nat))∧w.cell? ⟨h,1,none⟩=some (.int .i64 ((tT t).L.M:Nat))∧w.cell? ⟨h,2,none⟩=some (.int .i64 ((tT t).L.C:Nat))∧w.cell? ⟨h,3,none⟩=some (.int .i64 ((tT t).L.V:Nat)):=by
 obtain⟨_,_,vE,vL,vB,j,_⟩:=H
 exact⟨cell_of_row _ _ _ _ 84 _ j,cell_of_row _ _ _ _ 84 _ j,cell_of_row _ _ _ _ 84 _ j,cell_of_row _ _ _ _ 84 _ j⟩
theorem RHd.ents {kt:Nat→Int}{B:Nat}{t:ByteArray}{h:Nat}{w:World}(H:RHd kt B t h w):∃j u,w.cell? ⟨h,5,none⟩=some (.slice j (tT t).L.es.length u)∧w.ownsRow B 131 2 (.slice j (tT t).L.es.length u) (tT t).L.es.length (enV (tT t).L.es):=by
 obtain⟨_,_,vE,vL,vB,D,oE,_⟩:=H
 have A:w.ownsRow B 131 2 vE (tT t).L.es.length (enV (tT t).L.es):=oE
 obtain⟨j,u,rfl⟩:=zA A
 exact⟨j,u,cell_of_row _ _ _ _ 84 _ D,A⟩
theorem RB.top {kt:Nat→Int}{B v:Nat}{vH vU:Value}{hp:List (ByteArray×Nat)}{un:List Nat}{t0:ByteArray}{w:World}(h:RB kt B v vH vU hp un w)(D:RSet kt t0 (hp.map Prod.fst)):∃A g0 u,vH=.slice (some ⟨g0,0,none⟩) hp.length u∧0<hp.length∧w.cell? ⟨v,0,none⟩=some (.slice (some ⟨g0,0,none⟩) hp.length u)∧w.cell? ⟨g0,0,none⟩=some (.pointer (some ⟨A,0,none⟩))∧RHd kt B t0 A w:=by
 cases hp with
 |nil=>have:=D.head;cases this
 |cons x r=>
  have A:x.1=t0:=by have:=D.head;simpa using this
  obtain⟨G,u,rfl⟩:=zA h.oH
  obtain⟨g0,e,F⟩:=zB1 h.oH (i:=0) (x:=x.2) rfl
  subst e
  have hl:((x::r).map Prod.snd).length=(x::r).length:=by simp
  have j:=h.row
  rw[hl]at j
  exact⟨x.2,g0,u,by rw[hl],by simp,cell_of_row _ _ _ _ 76 _ j,F,by rw[←A];exact h.hd x List.mem_cons_self⟩
def GoD (kt:Nat→Int)(t0:ByteArray)(hs:List ByteArray)(n:Nat)(w:World)(e:Ending)(w':World):Prop:=e=.returned (.tuple #[.string (blH hs n),.bool (zAG kt (tT t0).L.C (tT t0).lv n (blH hs n))])∧Below w.heap.size w w'
theorem zFh (D:ByteArray→ByteArray)(s:ByteArray):za D s=D (⟨#[0]⟩++s):=rfl
theorem zN2 (kt:Nat→Int)(B v:Nat)(vH vU:Value)(hp:List (ByteArray×Nat))(un:List Nat)(t0:ByteArray)(n:Nat)(w:World)(H:RB kt B v vH vU hp un w)(u:RSet kt t0 (hp.map Prod.fst))(hG:Gr kt w)(hn:n<(tT t0).L.cnt)(hl:hp.length≤100000000):
 Calls Tryz.prog 85 #[.pointer (some ⟨v,0,none⟩),.int .i64 n] w fun e w'=>GoD kt t0 (hp.map Prod.fst) n w e w':=by
 have hT:zt (tT t0):=zAz (zY (u.rd t0 u.mem0)).2.1
 have a1:=hT.cnt
 have a7:Hid _:=zN1 kt B v vH vU hp un t0 n w H u (by omega) hl
 obtain⟨R,g0,cH,rfl,hm,c0,c1,hh⟩:=H.top u
 obtain⟨aL,cL,c2,U⟩:=hh.leaves
 obtain⟨Q,rfl,c3⟩:=U n hn
 obtain⟨m,a2⟩:∃x,hp.length=x:=⟨_,rfl⟩
 obtain⟨cnt,Z⟩:∃x,(tT t0).L.cnt=x:=⟨_,rfl⟩
 obtain⟨lf,G⟩:∃x,pc (tT t0).lv 32 n=x:=⟨_,rfl⟩
 obtain⟨b,hb⟩:∃x,blH (hp.map Prod.fst) n=x:=⟨_,rfl⟩
 obtain⟨d,hd⟩:∃x,ofT kt (⟨#[0]⟩++b)=x:=⟨_,rfl⟩
 have J:Hid (zAG kt (tT t0).L.C (tT t0).lv n b=(zG2 (hp.map Prod.fst) n&&decide (d=lf))):=by
  show _=_
  rw[←hb,u.good,hb,zFh,hd,G]
 have aO:b.size≤64:=by
  rw[←hb]
  cases hc:zG2 (hp.map Prod.fst) n with
  |true=>rw[(u.bl_size n).1 hc];exact hT.c64
  |false=>rw[(u.bl_size n).2 hc];decide
 have a6:Hid (zG2 (hp.map Prod.fst) n=false→b=⟨#[]⟩):=fun e=>by rw[←hb];exact (u.bl_size n).2 e
 rw[a2]at c0 hm
 rw[Z]at c2 hn a1
 rw[G]at c3
 have HB:Hid _:=hb
 have HD:Hid (∀X:World,Below w.heap.size w X→Calls Tryz.prog 77 #[.string (⟨#[0]⟩++b)] X fun e w'=>e=.returned (.string d)∧Below X.heap.size X w'):=fun X hX=>by
  rw[←hd]
  exact zb kt _ X (by rw[ByteArray.size_append];show 1+b.size≤_;omega) (hG.below hX)
 have N:Hid (∀X:World,Calls Tryz.prog 122 #[.string b] X fun e w'=>e=.returned (.string (⟨#[0]⟩++b))∧w'=X):=fun X=>zCT b X (by omega)
 obtain⟨z,hz⟩:∃z:ByteArray,⟨#[0]⟩++b=z:=⟨_,rfl⟩
 rw[hz]at HD N
 have HV:Hid (∀X:World,Below w.heap.size w X→X.cell? ⟨v,0,none⟩=some (.slice (some ⟨g0,0,none⟩) m cH)∧X.cell? ⟨g0,0,none⟩=some (.pointer (some ⟨R,0,none⟩))∧X.cell? ⟨R,7,none⟩=some (.slice (some ⟨Q,0,none⟩) cnt cL)∧X.cell? ⟨Q,n,none⟩=some (.string lf)):=fun X hX=>
  ⟨(hX.cell (p:=⟨v,0,none⟩) (block_lt_of_cell c0)).trans c0,(hX.cell (p:=⟨g0,0,none⟩) (block_lt_of_cell c1)).trans c1,(hX.cell (p:=⟨R,7,none⟩) (block_lt_of_cell c2)).trans c2,(hX.cell (p:=⟨Q,n,none⟩) (block_lt_of_cell c3)).trans c3⟩
 have aQ:(0:Int)<(m:Int):=by omega
 have aR:(n:Int)<(cnt:Int):=by omega
 clear H u hG U hT hh c0 c1 c2 c3 G hb hd hz a2 Z
 go_enter Tryz.func85,Tryz.ntmps85
 go_wp2_with fail
 refine Calls.mono a7.out ?_
 rintro e w1 ⟨rfl,A⟩
 have j:Hid _:=A
 rw[HB.out]
 cases hc:zG2 (hp.map Prod.fst) n with
 |false=>
  have HR:Hid (zAG kt (tT t0).L.C (tT t0).lv n b=false):=by show _=_;rw[J.out,hc];rfl
  have HE:Hid (b=⟨#[]⟩):=a6.out hc
  clear A hc
  go_wp2_with fail
  go_ret2
  exact⟨by rw[HB.out,HR.out,HE.out];rfl,j.out⟩
 |true=>
  have HR:Hid (zAG kt (tT t0).L.C (tT t0).lv n b=decide (d=lf)):=by show _=_;rw[J.out,hc];rfl
  obtain⟨v0,v1,v2,v3⟩:=HV.out w1 A
  clear A hc
  go_wp2_with fail
  go_region_held3 (fun w2=>w2.cell? ⟨v,0,none⟩=some (.slice (some ⟨g0,0,none⟩) m cH)∧w2.cell? ⟨g0,0,none⟩=some (.pointer (some ⟨R,0,none⟩))∧w2.cell? ⟨R,7,none⟩=some (.slice (some ⟨Q,0,none⟩) cnt cL)∧w2.cell? ⟨Q,n,none⟩=some (.string lf)) (first|exact⟨y0,y1,y2,y3⟩|exact⟨v0,v1,v2,v3⟩|go_keep) (first|(go_at_call 77;refine Calls.mono (HD.out _ (by first|exact j.out|exact j.out.drew)) ?_;rintro e w8 ⟨rfl,F⟩;have D:Below w.heap.size w w8:=(by first|exact j.out.trans (F.mono j.out.size)|exact (j.out.drew).trans (F.mono (j.out.drew).size));obtain⟨y0,y1,y2,y3⟩:=HV.out w8 D)|(go_at_call 122;refine Calls.mono (N.out _) ?_;rintro e w7 ⟨rfl,rfl⟩))
  have hq:(d.toList == lf.toList)=decide (d=lf):=by
   by_cases e:d=lf
   ·rw[zS e,decide_eq_true e]
   ·rw[zW e,decide_eq_false e]
  rw[hq]
  have a5:Hid _:=D
  clear F D y0 y1 y2 y3 v0 v1 v2 v3 hq
  go_wp2_with fail
  go_ret2
  exact⟨by rw[HB.out,HR.out];rfl,a5.out⟩
theorem zMR {w:World}{B:Nat}{e:TypeId}{size:Nat}{g n m j:Nat}{A ys:List Value}(h:w.ownsRow B e size (.slice (some ⟨g,0,none⟩) (n+m) j) (n+m) (A++ys))(F:A.length=n*size):w.ownsRow B e size (.slice (some ⟨g,0,none⟩) n j) n A:=by
 refine⟨F,?_⟩
 rcases h.2 with ⟨u,_⟩|⟨Z,D,cur,u,J,N,h4,Q,R,U⟩
 ·cases u
 ·cases u
  refine .inr ⟨g,j,cur,rfl,J,N,by omega,Q,R,?_⟩
  have G:cur.toList.take (n*size)=(cur.toList.take ((n+m)*size)).take (n*size):=by
   rw[List.take_take,Nat.min_eq_left (Nat.mul_le_mul_right _ (by omega))]
  rw[G,U,←F,List.take_left]
theorem zLH {w:World}{B B':Nat}{t e:TypeId}{i:TypeInfo}{z:Value}{size bytes:Nat}(ty:TypeId)(ht:Tryz.prog.underlying t=some (.slice e))(hi:Tryz.prog.info? e=some i)(hz:i.zero=some z)(hs:i.size=size)(hb:i.bytes=bytes)(aA:z.cells.size=size)(a7:0<size)
 {v:Value} {g c:Nat} {n m:Nat} {U ys:List Value} (F:w.ownsRow B e size v n U) (J:w.ownsRow B' e size (.slice (some ⟨g,0,none⟩) m c) m ys) (h1:∀u∈ys,u.oneCell'=true) (hm:0<m) (hn:(n+m)*bytes≤140737488355328) (aN:n+m≤100000000000000) (hB:B≤w.heap.size):
 ∃Q w',(Builtin.append_ #[t,t] ty #[v,.slice (some ⟨g,0,none⟩) m c]).run Tryz.prog w=.ok Q w'∧w'.ownsRow B e size Q (n+m) (U++ys)∧w.grownBy w' v.ownBlock∧w'.ownsRow B e size v n U∧(Q.ownBlock=v.ownBlock∨(Q.ownBlock=some w.heap.size∧Below w.heap.size w w')):=by
 obtain⟨Q,w',h2,h3,h4,h6,N⟩:=run_append_own_at (P:=Tryz.prog) w B t ty e i z size bytes ht hi hz hs hb aA a7 v n U F ⟨g,0,none⟩ m c ys J.1 (J.cells rfl) h1 (by unfold maxLen;omega) hn hB
 refine⟨Q,w',h2,h3,h4,?_⟩
 rcases F.2 with ⟨rfl,rfl⟩|⟨gv,G,cur,rfl,aK,hg,aO,aL,a6,a9⟩
 ·have j:Below w.heap.size w w':=(Below.refl _ _).grown h4 (Nat.le_refl _) (fun y hy=>by cases hy)
  refine⟨⟨F.1,.inl ⟨rfl,rfl⟩⟩,.inr ⟨?_,j⟩⟩
  rcases N with N|N
  ·exfalso
   rcases h3.2 with ⟨h7,h8⟩|⟨g2,c2,aB,h7,_⟩
   ·omega
   ·rw[h7]at N;cases N
  ·exact N
 ·subst hs
  subst hb
  by_cases D:n+m≤G
  ·have R:n*i.size+ys.length≤cur.size:=by rw[J.1,a6,←Nat.add_mul];exact Nat.mul_le_mul_right _ D
   have A:=run_append_room (P:=Tryz.prog) w t ty e i ht hi gv n G cur hg ⟨g,0,none⟩ m c ys J.1 (J.cells rfl) h1 D R
   rw[h2]at A
   have Z:=(Result.ok.inj A).1
   rw[Z]at h3
   exact⟨zMR h3 F.1,.inl (by rw[Z];rfl)⟩
  ·have A:=run_append_grow (P:=Tryz.prog) w t ty e i z ht hi hz ⟨gv,0,none⟩ n G U F.1 (F.cells (g:=gv) rfl) ⟨g,0,none⟩ m c ys J.1 (J.cells rfl) (by omega) (by omega) (growslice_fits (by omega) hn)
   rw[h2]at A
   have Z:=(Result.ok.inj A).1
   have e2:=(Result.ok.inj A).2
   have j:Below w.heap.size w w':=by
    rw[e2]
    exact ((Below.refl _ _).drew).alloc (Nat.le_refl _) _
   exact⟨zD F (fun q hq=>j.block q (zG F q hq)),.inr ⟨by rw[Z];rfl,j⟩⟩
def zAW (mk:List Value):Nat→List Value
 |0=>[]
 |n+1=>zAW mk n++mk
theorem zAd (mk:List Value):∀n,(zAW mk n).length=n*mk.length
 |0=>by simp[zAW]
 |n+1=>by rw[zAW,List.length_append,zAd mk n,Nat.succ_mul]
theorem zF0 (mk:List Value)(n:Nat):∀m,zAW mk (n+m)=zAW mk n++zAW mk m
 |0=>by simp[zAW]
 |m+1=>by rw[←Nat.add_assoc,zAW,zF0 mk n m,zAW,List.append_assoc]
theorem zF1 (mk:List Value):∀n i f,i<n→f<mk.length→(zAW mk n)[i*mk.length+f]? =mk[f]?
 |0,i,f,h,_=>by omega
 |n+1,i,f,h,hf=>by
  by_cases e:i=n
  ·subst e
   rw[zAW,List.getElem?_append_right (by rw[zAd];omega),zAd,Nat.add_sub_cancel_left]
  ·have j:(i+1)*mk.length≤n*mk.length:=Nat.mul_le_mul_right _ (by omega)
   rw[Nat.succ_mul]at j
   rw[zAW,List.getElem?_append_left (by rw[zAd];omega)]
   exact zF1 mk n i f (by omega) hf
theorem zF2 (mk:List Value)(h:∀u∈mk,u.oneCell'=true):∀n,∀u∈zAW mk n,u.oneCell'=true
 |0,u,j=>by cases j
 |n+1,u,j=>by
  rcases List.mem_append.1 j with j|j
  ·exact zF2 mk h n u j
  ·exact h u j
def FulG (w:World)(ty sz:Nat)(mk:List Value)(v:Value):Prop:=∃a n c,v=.slice a n c∧n≤1000000000000∧(n=0∨∃g cur,a=some ⟨g,0,none⟩∧w.heap[g]? =some (.cells cur ty (0,0))∧∀i,i<n→∀f,f<sz→cur[i*sz+f]? =mk[f]?)
theorem FulG.kept {w w':World}{u sz:Nat}{mk:List Value}{v:Value}(h:FulG w u sz mk v)(hk:∀q cur,v.ownBlock=some q→w.heap[q]? =some (.cells cur u (0,0))→w'.heap[q]? =w.heap[q]?):FulG w' u sz mk v:=by
 obtain⟨a,n,c,rfl,D,j⟩:=h
 refine⟨a,n,c,rfl,D,?_⟩
 rcases j with j|⟨g,cur,rfl,A,F⟩
 ·exact .inl j
 ·exact .inr ⟨g,cur,rfl,by rw[hk g cur rfl A];exact A,F⟩
theorem zBY {w:World}{B F sz n:Nat}{mk:List Value}{v:Value}(h:w.ownsRow B F sz v n (zAW mk n))(N:mk.length=sz)(Q:n≤1000000000000):FulG w F sz mk v:=by
 rcases h.2 with ⟨u,U⟩|⟨g,j,cur,R,hb,J,D,_,G,A⟩
 ·exact⟨none,0,0,u,by omega,.inl rfl⟩
 ·refine⟨some ⟨g,0,none⟩,n,j,R,Q,.inr ⟨g,cur,rfl,J,fun i hi f hf=> ?_⟩⟩
  have u:(i+1)*sz≤n*sz:=Nat.mul_le_mul_right _ (by omega)
  rw[Nat.succ_mul]at u
  have e:(cur.toList.take (n*sz))[i*sz+f]? =mk[f]? :=by
   rw[A,←N]
   exact zF1 mk n i f hi (by omega)
  rw[List.getElem?_take,if_pos (by omega),Array.getElem?_toList]at e
  exact e
theorem FulG.less {w:World}{A sz:Nat}{mk:List Value}{g n m c j:Nat}(h:FulG w A sz mk (.slice (some ⟨g,0,none⟩) n c))(N:m≤n):FulG w A sz mk (.slice (some ⟨g,0,none⟩) m j):=by
 obtain⟨a,Q,c2,e,J,u⟩:=h
 cases e
 refine⟨_,m,j,rfl,by omega,?_⟩
 rcases u with u|⟨G,cur,e,D,F⟩
 ·exact .inl (by omega)
 ·cases e
  exact .inr ⟨g,cur,rfl,D,fun i hi=>F i (by omega)⟩
theorem FulG.after {w w':World}{Q sz B:Nat}{mk:List Value}{v a R:Value}{n k1 F:Nat}(hm:mk.length=sz)(J:FulG w Q sz mk a)(j:∀q,a.ownBlock=some q→q<w.heap.size)(N:a.ownBlock=v.ownBlock→∃x c,a=.slice x (n+k1) c)(hk:k1≤F)(u:w'.ownsRow B Q sz R (n+F) (zAW mk (n+F)))(hg:w.grownBy w' v.ownBlock)(hc:R.ownBlock=v.ownBlock∨(R.ownBlock=some w.heap.size∧Below w.heap.size w w'))(hn:n+F≤1000000000000):FulG w' Q sz mk a:=by
 by_cases e:a.ownBlock=v.ownBlock
 ·rcases hc with h1|⟨_,hB⟩
  ·obtain⟨x,c,rfl⟩:=N e
   have hF:=zBY u hm hn
   rcases u.2 with ⟨Z,h3⟩|⟨g,a1,cur,Z,_⟩
   ·refine⟨x,n+k1,c,rfl,by omega,.inl (by omega)⟩
   ·subst Z
    have A:(Value.slice x (n+k1) c).ownBlock=some g:=by rw[e,←h1];rfl
    cases x with
    |none=>cases A
    |some y=>
     rcases J with ⟨a2,n2,c2,e3,h4,G⟩
     cases e3
     rcases G with G|⟨g2,U,e4,_⟩
     ·exact⟨_,_,_,rfl,by omega,.inl G⟩
     ·cases e4
      have:g2=g:=by simpa[Value.ownBlock] using A
      subst this
      exact hF.less (by omega)
  ·exact J.kept (fun q cur D _=>hB.block q (j q D))
 ·exact J.kept (fun q cur D _=>hg.block q (j q D) (fun A=>e (by rw[D,A])))
structure Ent where
 l:Value
 a:Value
 b:Value
 c:Value
 m:Value
def Ent.vals (e:Ent):List Value:=[e.l,e.a,e.b,e.c,e.m]
def Ent.has (e:Ent)(q:Nat):Prop:=e.l.ownBlock=some q∨e.a.ownBlock=some q∨e.b.ownBlock=some q∨e.c.ownBlock=some q
def Ent.ok (w:World)(ty sz:Nat)(mk:Value→List Value)(e:Ent):Prop:=FulG w ty sz (mk e.m) e.l∧FulG w ty sz (mk e.m) e.a∧FulG w ty sz (mk e.m) e.b∧FulG w ty sz (mk e.m) e.c
theorem Ent.ok.kept {w w':World}{u sz:Nat}{mk:Value→List Value}{e:Ent}(h:e.ok w u sz mk)(hk:∀q cur,e.has q→w.heap[q]? =some (.cells cur u (0,0))→w'.heap[q]? =w.heap[q]?):e.ok w' u sz mk:=
 ⟨h.1.kept (fun q cur j=>hk q cur (.inl j)),h.2.1.kept (fun q cur j=>hk q cur (.inr (.inl j))),h.2.2.1.kept (fun q cur j=>hk q cur (.inr (.inr (.inl j)))),h.2.2.2.kept (fun q cur j=>hk q cur (.inr (.inr (.inr j))))⟩
def zv (X:List Ent):List Value:=X.flatMap Ent.vals
theorem zDx:∀(X:List Ent) (i f:Nat) (h:i<X.length),f<5→(zv X)[i*5+f]? =X[i].vals[f]?
 |[],i,f,h,_=>by simp at h
 |e::X,0,f,_,hf=>by
  rw[zv,List.flatMap_cons,List.getElem?_append_left (by simp[Ent.vals];omega)];simp
 |e::X,i+1,f,h,hf=>by
  have hl:e.vals.length=5:=rfl
  rw[zv,List.flatMap_cons,List.getElem?_append_right (by rw[hl];omega),hl,show (i+1)*5+f-5=i*5+f by omega]
  exact zDx X i f (by simpa using h) hf
theorem zBP {w:World}{base c D:Nat}{a:Option Addr}{X:List Ent}(h:w.ownsRow base D 5 (.slice a X.length c) X.length (zv X))(i:Nat)(hi:i<X.length):∃g,a=some ⟨g,0,none⟩∧g<w.heap.size∧∀f,(hf:f<5)→w.cell? ⟨g,i*5+f,none⟩=(X[i].vals)[f]? :=by
 rcases h.2 with ⟨_,F⟩|⟨g,u,cur,j,hb,A,_⟩
 ·omega
 ·obtain rfl:a=some ⟨g,0,none⟩:=by simp at j;exact j.1
  refine⟨g,rfl,(Array.getElem?_eq_some_iff.1 A).1,fun f hf=> ?_⟩
  rw[h.cellAt (i*5+f) (by omega),zDx X i f hi hf]
def Kz (t5:Nat)(z:Option Nat)(W w:World):Prop:=∀(j:Nat) (cs:Array Value) (t:TypeId),W.heap[j]? =some (.cells cs t (0,0))→t≠33→t≠t5→z≠some j→w.heap[j]? =some (.cells cs t (0,0))
theorem Kz.refl (t5:Nat)(z:Option Nat)(w:World):Kz t5 z w w:=fun _ _ _ h _ _ _=>h
theorem Kz.trans {t5:Nat}{z:Option Nat}{a b c:World}(h:Kz t5 z a b)(G:Kz t5 z b c):Kz t5 z a c:=fun j A t J u D F=>G j A t (h j A t J u D F) u D F
theorem Kz.below {t5:Nat}{z:Option Nat}{w w':World}(h:Below w.heap.size w w'):Kz t5 z w w':=fun j A t u _ _ _=>by rw[h.block j (Array.getElem?_eq_some_iff.1 u).1];exact u
theorem Kz.set {t5:Nat}{z:Option Nat}{w:World}{B:Nat}{c:Array Value}{t:TypeId}(h:w.heap[B]? =some (.cells c t (0,0)))(D:t=33∨t=t5)(i:Nat)(v:Value):Kz t5 z w (w.setCell ⟨B,i,none⟩ v):=fun j F J u A G _=>by
 rw[zC _ _ _ _ _ (zE u h (by rcases D with e|e<;>rw[e]<;>assumption))]
 exact u
theorem Kz.setz {t5:Nat}{z w:World}{g:Nat}(h:Kz t5 (some g) z w)(i:Nat)(v:Value):Kz t5 (some g) z (w.setCell ⟨g,i,none⟩ v):=fun j D t G u F A=>by
 rw[zC _ _ _ _ _ (fun e=>A (by rw[e]))]
 exact h j D t G u F A
theorem Kz.grown {t5:Nat}{z:Option Nat}{w w':World}(h:w.grownBy w' z):Kz t5 z w w':=fun j D t u _ _ A=>by
 rw[h.block j (Array.getElem?_eq_some_iff.1 u).1 (fun e=>A e.symm)]
 exact u
structure FA (tE sz:Nat)(mk:List Value)(l:Value)(n k:Nat)(W w:World)(a:Value):Prop where
 ful:FulG w tE sz mk a
 lt:∀q,a.ownBlock=some q→q<w.heap.size∧(l.ownBlock=some q∨W.heap.size≤q)
 len:a.ownBlock=l.ownBlock→∃x c k1,k1≤k∧a=.slice x (n+k1) c
structure KA (base B x0 t5 tE sz:Nat)(mk:List Value)(l m:Value)(n:Nat)(rh:Array Value)(vX:Value)(X:List Ent)(a b c:Value)(k:Nat)(W w:World):Prop where
 hall:w.heap[B]? =some (.cells rh 33 (0,0))
 own:w.ownsRow base t5 5 vX X.length (zv X)
 row:w.heap[x0]? =some (.cells #[l,a,b,c,m] t5 (0,0))
 ne:vX.ownBlock≠some x0
 new:W.heap.size≤x0
 bw:base≤W.heap.size
 lo:w.ownsRow base tE sz l n (zAW mk n)
 fa:FA tE sz mk l n k W w a
 fb:FA tE sz mk l n k W w b
 fc:FA tE sz mk l n k W w c
 kz:Kz t5 l.ownBlock W w
 bel:Below base W w
theorem zMO (w:World)(j:Array Value)(tE sz k:Nat)(mk:List Value)(h:j.toList=zAW mk k)(u:mk.length=sz)(hk:k≤1000):(w.alloc (.cells j tE)).ownsRow w.heap.size tE sz (.slice (some ⟨w.heap.size,0,none⟩) k k) k (zAW mk k):=by
 have hl:(zAW mk k).length=k*sz:=by rw[zAd,u]
 refine⟨hl,.inr ⟨w.heap.size,k,j,rfl,Nat.le_refl _,heap_alloc_new _ _,Nat.le_refl _,by unfold maxLen;omega,?_,?_⟩⟩
 ·rw[←hl,←h];simp
 ·rw[h,←hl,List.take_length]
section
variable {base B x0 t5 tE sz tS bytes:Nat} {mk:List Value} {l m:Value} {n k:Nat} {rh:Array Value} {vX:Value} {X:List Ent} {a b c:Value} {W w:World} {i:TypeInfo} {z:Value}
theorem FA.low (h:FA tE sz mk l n k W w a){w':World}(hb:Below w.heap.size w w'):FA tE sz mk l n k W w' a:=
 ⟨h.ful.kept (fun q _ j _=>hb.block q (h.lt q j).1),fun q j=>⟨Nat.lt_of_lt_of_le (h.lt q j).1 hb.size,(h.lt q j).2⟩,h.len⟩
theorem FA.other (h:FA tE sz mk l n k W w a){x:Nat}{A:Array Value}(G:w.heap[x]? =some (.cells A t5 (0,0)))(F:tE≠t5)(j:Nat)(v:Value):FA tE sz mk l n k W (w.setCell ⟨x,j,none⟩ v) a:=
 ⟨h.ful.kept (fun q cur _ D=>zC _ _ _ _ _ (zE D G F)),fun q u=>⟨by rw[show (w.setCell ⟨x,j,none⟩ v).heap.size=w.heap.size by simp[World.setCell]];exact (h.lt q u).1,(h.lt q u).2⟩,h.len⟩
theorem FA.nil (hl:l.ownBlock=none→n=0):FA tE sz mk l n k W w (.slice none 0 0):=
 ⟨⟨none,0,0,rfl,by omega,.inl rfl⟩,fun q j=>(by cases j),fun e=>⟨none,0,0,by omega,by rw[hl e.symm]⟩⟩
theorem KA.app (H:KA base B x0 t5 tE sz mk l m n rh vX X a b c k W w)(ht:Tryz.prog.underlying tS=some (.slice tE))(hi:Tryz.prog.info? tE=some i)(hz:i.zero=some z)(hs:i.size=sz)(hb:i.bytes=bytes)(b1:z.cells.size=sz)(aX:0<sz)(hm:mk.length=sz)(h1:∀u∈mk,u.oneCell'=true)(h5:tE≠t5)(aQ:tE≠33)(aR:t5≠33)(hn:n≤1000000000)(aS:bytes≤100){k':Nat}(hk:k<k')(b4:k'≤3)(R:Array Value)(aC:R.toList=zAW mk k'):
 ∃D F,(Builtin.append_ #[tS,tS] tS #[l,.slice (some ⟨w.heap.size,0,none⟩) k' k']).run Tryz.prog (w.alloc (.cells R tE))=.ok D F∧F.heap[x0]? =some (.cells #[l,a,b,c,m] t5 (0,0))∧(∃x d,D=.slice x (n+k') d)∧
  KA base B x0 t5 tE sz mk l m n rh vX X D b c k' W (F.setCell ⟨x0,1,none⟩ D)∧KA base B x0 t5 tE sz mk l m n rh vX X a D c k' W (F.setCell ⟨x0,2,none⟩ D)∧KA base B x0 t5 tE sz mk l m n rh vX X a b D k' W (F.setCell ⟨x0,3,none⟩ D):=by
 have G:Below w.heap.size w (w.alloc (.cells R tE)):=(Below.refl _ _).alloc (Nat.le_refl _) _
 have N:base≤w.heap.size:=Nat.le_trans H.bw H.bel.size
 have aW:(n+k')*bytes≤140737488355328:=by
  have:(n+k')*bytes≤(n+k')*100:=Nat.mul_le_mul_left _ aS
  omega
 have aV:(w.alloc (.cells R tE)).ownsRow base tE sz l n (zAW mk n):=zD H.lo (fun q J=>G.block q (zG H.lo q J))
 obtain⟨D,F,aJ,ho,hg,aG,a2⟩:=zLH tS ht hi hz hs hb b1 aX aV (zMO w R tE sz k' mk aC hm (by omega)) (zF2 mk h1 k') (by omega) aW (by omega) (Nat.le_trans N G.size)
 rw[←zF0]at ho
 have a6:∀(j:Nat) (cs:Array Value) (t:TypeId),w.heap[j]? =some (.cells cs t (0,0))→t≠tE→F.heap[j]? =some (.cells cs t (0,0)):=fun j cs t hj aY=>by
  have aF:=(Array.getElem?_eq_some_iff.1 hj).1
  rw[hg.block j (Nat.lt_of_lt_of_le aF G.size) (fun e=>by
   obtain⟨cur,a4⟩:=zB H.lo j e.symm
   exact zE hj a4 aY rfl),G.block j aF]
  exact hj
 have A:=a6 _ _ _ H.row h5.symm
 have a5:=a6 _ _ _ H.hall aQ.symm
 have aI:F.ownsRow base t5 5 vX X.length (zv X):=zF H.own (fun j cs _ hj=>a6 j cs t5 hj h5.symm)
 have b5:∀f v,(F.setCell ⟨x0,f,none⟩ v).heap.size=F.heap.size:=fun f v=>by simp[World.setCell]
 have aH:∀q,D.ownBlock=some q→q<F.heap.size∧(l.ownBlock=some q∨W.heap.size≤q):=fun q J=>by
  refine⟨zG ho q J,?_⟩
  rcases a2 with e|⟨e,_⟩
  ·exact .inl (by rw[←e];exact J)
  ·right
   rw[e]at J
   have e2:(w.alloc (.cells R tE)).heap.size=q:=by simpa using J
   have e3:=G.size
   have e4:=H.bel.size
   omega
 have a7:FA tE sz mk l n k' W F D:=⟨zBY ho hm (by omega),aH,fun _=>by
  obtain⟨x,d,e⟩:=zA ho
  exact⟨x,d,k',Nat.le_refl _,e⟩⟩
 have U:∀y,FA tE sz mk l n k W w y→FA tE sz mk l n k' W F y:=fun y hy=>by
  have Z:=hy.low G
  refine⟨?_,fun q J=>⟨Nat.lt_of_lt_of_le (Z.lt q J).1 hg.size,(Z.lt q J).2⟩,fun e=> ?_⟩
  ·by_cases e:y.ownBlock=l.ownBlock
   ·obtain⟨x,d,k1,aT,e1⟩:=hy.len e
    exact FulG.after (k1:=k1) hm Z.ful (fun q J=>(Z.lt q J).1) (fun _=>⟨x,d,e1⟩) (by omega) ho hg a2 (by omega)
   ·exact FulG.after (k1:=0) hm Z.ful (fun q J=>(Z.lt q J).1) (fun e2=>absurd e2 e) (by omega) ho hg a2 (by omega)
  ·obtain⟨x,d,k1,aT,e1⟩:=hy.len e
   exact⟨x,d,k1,by omega,e1⟩
 have aU:Kz t5 l.ownBlock W F:=(H.kz.trans (Kz.below G)).trans (Kz.grown hg)
 have aD:Below base W F:=(H.bel.trans (G.mono N)).grown hg (Nat.le_trans N G.size) (fun q J=>zK H.lo q J)
 have aZ:base≤x0:=Nat.le_trans H.bw H.new
 have Q:∀(f:Nat) (row:Array Value),#[l,a,b,c,m].setIfInBounds f D=row→(F.setCell ⟨x0,f,none⟩ D).heap[B]? =some (.cells rh 33 (0,0))∧(F.setCell ⟨x0,f,none⟩ D).ownsRow base t5 5 vX X.length (zv X)∧(F.setCell ⟨x0,f,none⟩ D).heap[x0]? =some (.cells row t5 (0,0))∧(F.setCell ⟨x0,f,none⟩ D).ownsRow base tE sz l n (zAW mk n)∧Kz t5 l.ownBlock W (F.setCell ⟨x0,f,none⟩ D)∧Below base W (F.setCell ⟨x0,f,none⟩ D):=fun f row e=>by
  have aB:B≠x0:=zE a5 A aR.symm
  refine⟨by rw[zC _ _ _ _ _ aB];exact a5,zD aI (fun q J=>zC _ _ _ _ _ (fun e=>H.ne (by rw[←e];exact J))),by rw[←e];exact zH _ _ _ _ _ _ _ A,zD aG (fun q J=> ?_),aU.trans (Kz.set A (.inr rfl) _ _),aD.setCell (p:=⟨x0,f,none⟩) aZ _⟩
  obtain⟨cur,a4⟩:=zB aG q J
  exact zC _ _ _ _ _ (zE a4 A h5)
 refine⟨D,F,aJ,A,zA ho,?_,?_,?_⟩
 ·obtain⟨r1,r2,r3,r4,r5,r6⟩:=Q 1 #[l,D,b,c,m] rfl
  exact⟨r1,r2,r3,H.ne,H.new,H.bw,r4,a7.other A h5 _ _,(U _ H.fb).other A h5 _ _,(U _ H.fc).other A h5 _ _,r5,r6⟩
 ·obtain⟨r1,r2,r3,r4,r5,r6⟩:=Q 2 #[l,a,D,c,m] rfl
  exact⟨r1,r2,r3,H.ne,H.new,H.bw,r4,(U _ H.fa).other A h5 _ _,a7.other A h5 _ _,(U _ H.fc).other A h5 _ _,r5,r6⟩
 ·obtain⟨r1,r2,r3,r4,r5,r6⟩:=Q 3 #[l,a,b,D,m] rfl
  exact⟨r1,r2,r3,H.ne,H.new,H.bw,r4,(U _ H.fa).other A h5 _ _,(U _ H.fb).other A h5 _ _,a7.other A h5 _ _,r5,r6⟩
end
theorem Kz.grown5 {t5:Nat}{z row:Option Nat}{w w':World}(h:w.grownBy w' row)(J:∀q,row=some q→∃A,w.heap[q]? =some (.cells A t5 (0,0))):Kz t5 z w w':=fun j A t u _ G _=>by
 rw[h.block j (Array.getElem?_eq_some_iff.1 u).1 (fun e=>by
  obtain⟨D,F⟩:=J j e.symm
  exact zE u F G rfl)]
 exact u
theorem zAD {w:World}{B:Nat}{e:TypeId}{size:Nat}{g n j p:Nat}{ys:List Value}(h:w.ownsRow B e size (.slice (some ⟨g,0,none⟩) n j) n ys)(hp:p<n*size)(u:Value):(w.setCell ⟨g,p,none⟩ u).ownsRow B e size (.slice (some ⟨g,0,none⟩) n j) n (ys.set p u)∧w.frozen? ⟨g,p,none⟩=false∧(∃x,w.cell? ⟨g,p,none⟩=some x):=by
 rcases h.2 with ⟨A,_⟩|⟨Z,G,cur,A,N,D,J,Q,R,U⟩
 ·cases A
 ·cases A
  have F:p<cur.size:=by
   have:n*size≤j*size:=Nat.mul_le_mul_right _ J
   omega
  refine⟨⟨by rw[List.length_set];exact h.1,.inr ⟨g,j,cur.setIfInBounds p u,rfl,N,zH _ _ _ _ _ _ _ D,J,Q,by simpa using R,?_⟩⟩,frozen_of_row _ _ _ _ e D,cur[p],?_⟩
  ·rw[Array.toList_setIfInBounds,List.take_set,U]
  ·rw[cell_of_row _ _ _ _ e _ D,Array.getElem?_eq_getElem F]
theorem zF3 (m:Value)(j:List Value)(i n:Nat)(hi:i<n)(D:j.length=n):(zAW [m] i++j.drop i).set i m=zAW [m] (i+1)++j.drop (i+1):=by
 have hl:(zAW [m] i).length=i:=by rw[zAd];simp
 rw[List.set_append_right _ _ (by omega),hl,Nat.sub_self]
 obtain⟨y,r,u⟩:∃y r,j.drop i=y::r:=by
  cases hd:j.drop i with
  |nil=>have:=congrArg List.length hd;rw[List.length_drop]at this;simp at this;omega
  |cons y r=>exact⟨y,r,rfl⟩
 have A:j.drop (i+1)=r:=by rw[←List.drop_drop,u];rfl
 rw[u,A,zAW,List.append_assoc]
 rfl
theorem zF4 (m u:Value)(j:List Value)(i n:Nat)(hi:i<n)(F:j.length=n*2):((zAW [m,u] i++j.drop (i*2)).set (i*2) m).set (i*2+1) u=zAW [m,u] (i+1)++j.drop ((i+1)*2):=by
 have hl:(zAW [m,u] i).length=i*2:=by rw[zAd];simp
 obtain⟨y,y2,r,A⟩:∃y y2 r,j.drop (i*2)=y::y2::r:=by
  cases hd:j.drop (i*2) with
  |nil=>have:=congrArg List.length hd;rw[List.length_drop]at this;simp at this;omega
  |cons y r=>cases r with
   |nil=>have:=congrArg List.length hd;rw[List.length_drop]at this;simp at this;omega
   |cons y2 r=>exact⟨y,y2,r,rfl⟩
 have D:j.drop ((i+1)*2)=r:=by rw[show (i+1)*2=i*2+2 by omega,←List.drop_drop,A];rfl
 rw[List.set_append_right _ _ (by omega),List.set_append_right _ _ (by omega),hl,Nat.sub_self,show i*2+1-i*2=1 by omega,A,D,zAW,List.append_assoc]
 rfl
section
variable {base B x0 t5 tE sz tS5:Nat} {mk:List Value} {l m:Value} {n k:Nat} {rh:Array Value} {vX:Value} {X:List Ent} {a b c:Value} {W w:World} {i:TypeInfo} {z:Value}
theorem KA.start (A:w.heap[B]? =some (.cells rh 33 (0,0)))(F:w.ownsRow base t5 5 vX X.length (zv X))(G:w.ownsRow base tE sz l n (zAW mk n))(N:Kz t5 l.ownBlock W w)(u:Below base W w)(J:base≤W.heap.size):KA base B w.heap.size t5 tE sz mk l m n rh vX X (.slice none 0 0) (.slice none 0 0) (.slice none 0 0) 0 W (w.alloc (.cells #[l,.slice none 0 0,.slice none 0 0,.slice none 0 0,m] t5)):=by
 have j:Below w.heap.size w (w.alloc (.cells #[l,.slice none 0 0,.slice none 0 0,.slice none 0 0,m] t5)):=(Below.refl _ _).alloc (Nat.le_refl _) _
 have D:l.ownBlock=none→n=0:=fun e=>by
  rcases G.2 with ⟨_,h⟩|⟨g,R,cur,h,_⟩
  ·exact h
  ·rw[h]at e;cases e
 exact⟨by rw[j.block B (Array.getElem?_eq_some_iff.1 A).1];exact A,zD F (fun q Q=>j.block q (zG F q Q)),heap_alloc_new _ _,fun e=>Nat.lt_irrefl _ (zG F _ e),u.size,J,zD G (fun q Q=>j.block q (zG G q Q)),FA.nil D,FA.nil D,FA.nil D,N.trans (Kz.below j),u.trans (j.mono (Nat.le_trans J u.size))⟩
theorem KA.fin (H:KA base B x0 t5 tE sz mk l m n rh vX X a b c k W w)(ht:Tryz.prog.underlying tS5=some (.slice t5))(hi:Tryz.prog.info? t5=some i)(hz:i.zero=some z)(hs:i.size=5)(hb:i.bytes≤200)(aK:z.cells.size=5)(h1:∀u∈[l,a,b,c,m],u.oneCell'=true)(h5:tE≠t5)(a6:tE≠33)(a7:t5≠33)(hX:X.length≤100000000000)(aF:base≤B)(A:Nat):
 ∃F D,(Builtin.append_ #[tS5,tS5] tS5 #[vX,.slice (some ⟨w.heap.size,0,none⟩) 1 1]).run Tryz.prog (w.alloc (.cells #[l,a,b,c,m] t5)).drew=.ok F D∧(∃x d,F=.slice x (X.length+1) d)∧D.heap[B]? =some (.cells rh 33 (0,0))∧
  (D.setCell ⟨B,A,none⟩ F).heap[B]? =some (.cells (rh.setIfInBounds A F) 33 (0,0))∧(D.setCell ⟨B,A,none⟩ F).ownsRow base t5 5 F (X.length+1) (zv (X++[⟨l,a,b,c,m⟩]))∧
  (FulG (D.setCell ⟨B,A,none⟩ F) tE sz mk l→FulG (D.setCell ⟨B,A,none⟩ F) tE sz mk l)∧FulG (D.setCell ⟨B,A,none⟩ F) tE sz mk a∧FulG (D.setCell ⟨B,A,none⟩ F) tE sz mk b∧FulG (D.setCell ⟨B,A,none⟩ F) tE sz mk c∧(D.setCell ⟨B,A,none⟩ F).ownsRow base tE sz l n (zAW mk n)∧
  (∀q,(⟨l,a,b,c,m⟩:Ent).has q→l.ownBlock=some q∨W.heap.size≤q)∧(∀q,(⟨l,a,b,c,m⟩:Ent).has q→q<(D.setCell ⟨B,A,none⟩ F).heap.size)∧Kz t5 l.ownBlock W (D.setCell ⟨B,A,none⟩ F)∧Below base W (D.setCell ⟨B,A,none⟩ F):=by
 obtain⟨w1,a5⟩:∃w1,(w.alloc (.cells #[l,a,b,c,m] t5)).drew=w1:=⟨_,rfl⟩
 have J:Below w.heap.size w w1:=by rw[←a5];exact ((Below.refl _ _).alloc (Nat.le_refl _) _).drew
 have N:base≤w.heap.size:=Nat.le_trans H.bw H.bel.size
 have aA:w1.ownsRow w.heap.size t5 5 (.slice (some ⟨w.heap.size,0,none⟩) 1 1) 1 [l,a,b,c,m]:=by
  rw[←a5]
  exact⟨rfl,.inr ⟨w.heap.size,1,#[l,a,b,c,m],rfl,Nat.le_refl _,heap_alloc_new _ _,Nat.le_refl _,by unfold maxLen;omega,rfl,rfl⟩⟩
 have aC:w1.ownsRow base t5 5 vX X.length (zv X):=zD H.own (fun q hq=>J.block q (zG H.own q hq))
 have aG:(X.length+1)*i.bytes≤140737488355328:=by
  have:(X.length+1)*i.bytes≤(X.length+1)*200:=Nat.mul_le_mul_left _ hb
  omega
 rw[a5]
 obtain⟨F,D,aB,ho,hg,aM⟩:=zV tS5 ht hi hz hs rfl aK (by decide) aC aA h1 aG (by omega) (Nat.le_trans N J.size)
 have R:∀(j:Nat) (Z:Array Value) (t:TypeId),w.heap[j]? =some (.cells Z t (0,0))→t≠t5→D.heap[j]? =some (.cells Z t (0,0)):=fun j Z t hj aJ=>by
  have a9:=(Array.getElem?_eq_some_iff.1 hj).1
  rw[hg.block j (Nat.lt_of_lt_of_le a9 J.size) (fun e=>by
   obtain⟨cur,a8⟩:=zB H.own j e.symm
   exact zE hj a8 aJ rfl),J.block j a9]
  exact hj
 have G:=R _ _ _ H.hall a7.symm
 have U:∀(j:Nat) (Z:Array Value) (t:TypeId),D.heap[j]? =some (.cells Z t (0,0))→t≠33→(D.setCell ⟨B,A,none⟩ F).heap[j]? =some (.cells Z t (0,0)):=fun j Z t hj ht=>by
  rw[zC _ _ _ _ _ (zE hj G ht)];exact hj
 have Q:∀y,FulG w tE sz mk y→FulG (D.setCell ⟨B,A,none⟩ F) tE sz mk y:=fun y hy=>hy.kept (fun q cur _ hc=>by rw[U _ _ _ (R _ _ _ hc h5) a6,hc])
 have aH:(D.setCell ⟨B,A,none⟩ F).heap.size=D.heap.size:=by simp[World.setCell]
 have a2:w.heap.size≤D.heap.size:=Nat.le_trans J.size hg.size
 refine⟨F,D,aB,zA ho,G,zH _ _ _ _ _ _ _ G,?_,fun h=>h,Q _ H.fa.ful,Q _ H.fb.ful,Q _ H.fc.ful,zF H.lo (fun j Z _ hj=>U _ _ _ (R _ _ _ hj h5) a6),fun q hq=> ?_,fun q hq=> ?_,?_,?_⟩
 ·have e:zv (X++[⟨l,a,b,c,m⟩])=zv X++[l,a,b,c,m]:=by simp[zv,Ent.vals]
  rw[e]
  exact zF ho (fun j Z _ hj=>U j Z t5 hj a7)
 ·rcases hq with h|h|h|h
  ·exact .inl h
  ·exact (H.fa.lt q h).2
  ·exact (H.fb.lt q h).2
  ·exact (H.fc.lt q h).2
 ·rw[aH]
  rcases hq with h|h|h|h
  ·exact Nat.lt_of_lt_of_le (zG H.lo q h) a2
  ·exact Nat.lt_of_lt_of_le (H.fa.lt q h).1 a2
  ·exact Nat.lt_of_lt_of_le (H.fb.lt q h).1 a2
  ·exact Nat.lt_of_lt_of_le (H.fc.lt q h).1 a2
 ·exact ((H.kz.trans (Kz.below J)).trans (Kz.grown5 hg (fun q hq=>zB aC q hq))).trans (Kz.set G (.inl rfl) _ _)
 ·exact ((H.bel.trans (J.mono N)).grown hg (Nat.le_trans N J.size) (fun q hq=>zK H.own q hq)).setCell (p:=⟨B,A,none⟩) aF _
end
structure Bk where
 n:Nat
 T:List Ent
 I:List Ent
 O:List Ent
 E:List Ent
def mk1 (m:Value):List Value:=[m]
def mkO (m:Value):List Value:=[m,m]
def mkE (m:Value):List Value:=[m,.int .i64 0]
structure BkI (base B:Nat)(l0 lo:Value)(bk:Bk)(w:World):Prop where
 row:∃vT vI vO vE,w.heap[B]? =some (.cells #[l0,.int .i64 bk.n,vT,vI,vO,vE,lo] 33 (0,0))∧w.ownsRow base 99 5 vT bk.T.length (zv bk.T)∧w.ownsRow base 101 5 vI bk.I.length (zv bk.I)∧w.ownsRow base 104 5 vO bk.O.length (zv bk.O)∧w.ownsRow base 107 5 vE bk.E.length (zv bk.E)
 T:∀e∈bk.T,e.ok w 9 1 mk1∧(∃s,e.m=.string s)∧∀q,e.has q→base≤q∧q<w.heap.size
 I:∀e∈bk.I,e.ok w 3 1 mk1∧(∃s,e.m=.int .i64 s)∧∀q,e.has q→base≤q∧q<w.heap.size
 O:∀e∈bk.O,e.ok w 149 2 mkO∧(∃s,e.m=.string s)∧∀q,e.has q→base≤q∧q<w.heap.size
 E:∀e∈bk.E,e.ok w 131 2 mkE∧(∃s,e.m=.string s)∧∀q,e.has q→base≤q∧q<w.heap.size
def Bk.has (bk:Bk)(q:Nat):Prop:=(∃e∈bk.T,e.has q)∨(∃e∈bk.I,e.has q)∨(∃e∈bk.O,e.has q)∨∃e∈bk.E,e.has q
theorem BkI.lt {base B:Nat}{D lo:Value}{A:Bk}{w:World}(h:BkI base B D lo A w){q:Nat}(j:A.has q):base≤q∧q<w.heap.size:=by
 rcases j with ⟨e,u,j⟩|⟨e,u,j⟩|⟨e,u,j⟩|⟨e,u,j⟩
 ·exact (h.T e u).2.2 q j
 ·exact (h.I e u).2.2 q j
 ·exact (h.O e u).2.2 q j
 ·exact (h.E e u).2.2 q j
theorem BkI.kept {base B:Nat}{R lo:Value}{Q:Bk}{w w':World}(h:BkI base B R lo Q w)(F:w.heap.size≤w'.heap.size)(J:∀(j:Nat) (D:Array Value) (t:TypeId),t=33∨t=99∨t=101∨t=104∨t=107→w.heap[j]? =some (.cells D t (0,0))→w'.heap[j]? =some (.cells D t (0,0)))(N:∀q,Q.has q→w'.heap[q]? =w.heap[q]?):BkI base B R lo Q w':=by
 obtain⟨vT,vI,vO,vE,U,Z,h3,h4,h5⟩:=h.row
 refine⟨⟨vT,vI,vO,vE,J _ _ _ (by simp) U,zF Z (fun j D _ G=>J j D _ (by simp) G),zF h3 (fun j D _ G=>J j D _ (by simp) G),zF h4 (fun j D _ G=>J j D _ (by simp) G),zF h5 (fun j D _ G=>J j D _ (by simp) G)⟩,fun e A=> ?_,fun e A=> ?_,fun e A=> ?_,fun e A=> ?_⟩
 ·obtain⟨a,b,c⟩:=h.T e A
  exact⟨a.kept (fun q _ u _=>N q (.inl ⟨e,A,u⟩)),b,fun q u=>⟨(c q u).1,Nat.lt_of_lt_of_le (c q u).2 F⟩⟩
 ·obtain⟨a,b,c⟩:=h.I e A
  exact⟨a.kept (fun q _ u _=>N q (.inr (.inl ⟨e,A,u⟩))),b,fun q u=>⟨(c q u).1,Nat.lt_of_lt_of_le (c q u).2 F⟩⟩
 ·obtain⟨a,b,c⟩:=h.O e A
  exact⟨a.kept (fun q _ u _=>N q (.inr (.inr (.inl ⟨e,A,u⟩)))),b,fun q u=>⟨(c q u).1,Nat.lt_of_lt_of_le (c q u).2 F⟩⟩
 ·obtain⟨a,b,c⟩:=h.E e A
  exact⟨a.kept (fun q _ u _=>N q (.inr (.inr (.inr ⟨e,A,u⟩)))),b,fun q u=>⟨(c q u).1,Nat.lt_of_lt_of_le (c q u).2 F⟩⟩
theorem BkI.low {base B:Nat}{D lo:Value}{u:Bk}{w w':World}(h:BkI base B D lo u w)(hb:Below w.heap.size w w'):BkI base B D lo u w':=
 h.kept hb.size (fun j G t _ A=>by rw[hb.block j (Array.getElem?_eq_some_iff.1 A).1];exact A) (fun q F=>hb.block q (h.lt F).2)
end Go.Proofs.YtlopecgkiikdhaaGreatDoor
