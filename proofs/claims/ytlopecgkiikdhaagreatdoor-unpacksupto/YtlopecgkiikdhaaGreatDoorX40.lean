import Derived.Test.YtlopecgkiikdhaaGreatDoorX35
import Derived.Test.YtlopecgkiikdhaaGreatDoorX39
namespace Go.Proofs.YtlopecgkiikdhaaGreatDoor
open Go.RowKit
set_option maxRecDepth 100000
set_option maxHeartbeats 1000000
section
variable (kt:Nat→Int) (T:TT) (bl:Nat→ByteArray)
def baN:Nat→List Nat
 |0=>[]
 |n+1=>if zAG kt T.L.C T.lv n (bl n)=true then baN n else baN n++[n]
theorem zHC:∀n,(baN kt T bl n).length≤n
 |0=>Nat.le_refl _
 |n+1=>by
  have:=zHC n
  rw[baN];split
  ·omega
  ·rw[List.length_append,List.length_singleton];omega
theorem zKU (s:Nat)(j:baN kt T bl (s*T.n)=baF kt T bl s):∀i,baN kt T bl (s*T.n+i)=baF kt T bl s++zBD (stH kt T bl s) (s*T.n) i
 |0=>by simp[zBD,j]
 |i+1=>by
  rw[←Nat.add_assoc,baN,zBD,zKU s j i]
  have e:stH kt T bl s i=zAG kt T.L.C T.lv (s*T.n+i) (bl (s*T.n+i)):=rfl
  rw[e]
  split
  ·rfl
  ·rw[List.append_assoc]
theorem zKT:∀s,baN kt T bl (s*T.n)=baF kt T bl s
 |0=>by simp[baN,baF]
 |s+1=>by
  rw[Nat.succ_mul,zKU kt T bl s (zKT s) T.n]
  rfl
def zF7:Nat→List UInt8
 |0=>[]
 |s+1=>zF7 s++(if stF kt T bl s=0 then jL (stM kt T bl s) T.L.K else List.replicate (T.L.K*T.L.C) 0)
def zDm:Nat→List ByteArray
 |0=>[]
 |s+1=>zDm s++(if stF kt T bl s=0 then (List.range T.n).map (stM kt T bl s) else [])
def zGV (s:Nat):List Nat:=(List.range s).map (stF kt T bl)
end
section
variable {kt:Nat→Int} {T:TT} {bl:Nat→ByteArray}
theorem zBe {s i:Nat}(h:stF kt T bl s=0)(hi:i<T.n):(stM kt T bl s i).size=T.L.C:=zAK ((zDi h).1 i hi).1
theorem zGu (s:Nat):(if stF kt T bl s=0 then jL (stM kt T bl s) T.L.K else List.replicate (T.L.K*T.L.C) 0).length=T.L.K*T.L.C:=by
 split
 ·rename_i h
  exact zHh _ _ _ (fun i hi=>zBe h (by unfold TT.n;omega))
 ·simp
theorem zAP:∀s,(zF7 kt T bl s).length=s*(T.L.K*T.L.C)
 |0=>by simp[zF7]
 |s+1=>by rw[zF7,List.length_append,zAP s,zGu,Nat.succ_mul]
theorem zF8 (j:0<T.L.K*T.L.C):∀s x,x<s*(T.L.K*T.L.C)→stF kt T bl (x/(T.L.K*T.L.C))=0→(zF7 kt T bl s).getD x 0=zEi kt T bl x
 |0,x,h,_=>by omega
 |s+1,x,h,hf=>by
  rw[zF7]
  by_cases e:x<s*(T.L.K*T.L.C)
  ·rw[List.getD_eq_getElem?_getD,List.getElem?_append_left (by rw[zAP];exact e),←List.getD_eq_getElem?_getD]
   exact zF8 j s x e hf
  ·rw[Nat.succ_mul]at h
   have hs:x/(T.L.K*T.L.C)=s:=by
    have u:=Nat.div_add_mod x (T.L.K*T.L.C)
    have D:x/(T.L.K*T.L.C)<s+1:=(Nat.div_lt_iff_lt_mul j).2 (by rw[Nat.succ_mul];exact h)
    have F:s≤x/(T.L.K*T.L.C):=(Nat.le_div_iff_mul_le j).2 (by omega)
    omega
   have A:x%(T.L.K*T.L.C)=x-s*(T.L.K*T.L.C):=by
    have u:=Nat.div_add_mod x (T.L.K*T.L.C)
    rw[hs,Nat.mul_comm]at u
    omega
   rw[hs]at hf
   rw[List.getD_eq_getElem?_getD,List.getElem?_append_right (by rw[zAP];omega),zAP,if_pos hf]
   unfold zEi stD
   rw[hs,A,List.getD_eq_getElem?_getD]
   show _=(((jL (stM kt T bl s) T.L.K).toArray).toList[_]?).getD 0
   rw[List.toList_toArray]
theorem zMk (A:0<T.L.K*T.L.C){ns a b:Nat}(u:a≤b)(hb:b≤ns*(T.L.K*T.L.C))(h:∀x,a≤x→x<b→stF kt T bl (x/(T.L.K*T.L.C))=0):((zF7 kt T bl ns).drop a).take (b-a)=zCZ kt T bl a b:=by
 apply List.ext_getElem?
 intro i
 by_cases hi:i<b-a
 ·rw[List.getElem?_take,if_pos hi,List.getElem?_drop]
  have j:=zF8 (bl:=bl) (kt:=kt) A ns (a+i) (by omega) (h (a+i) (by omega) (by omega))
  have hl:a+i<(zF7 kt T bl ns).length:=by rw[zAP];omega
  rw[List.getD_eq_getElem?_getD,List.getElem?_eq_getElem hl]at j
  rw[List.getElem?_eq_getElem hl]
  unfold zCZ
  rw[List.getElem?_map,List.getElem?_range hi]
  simp at j ⊢
  exact j
 ·rw[List.getElem?_eq_none (by rw[List.length_take,List.length_drop,zAP];omega),List.getElem?_eq_none (by rw[zF9];omega)]
theorem zC5:∀s,(∀x,x<s→stF kt T bl x=0)→zDm kt T bl s=(List.range (s*T.n)).map (fun x=>stM kt T bl (x/T.n) (x%T.n))
 |0,_=>by simp[zDm]
 |s+1,h=>by
  rw[zDm,zC5 s (fun x u=>h x (by omega)),if_pos (h s (by omega)),Nat.succ_mul,List.range_add,List.map_append,List.map_map]
  congr 1
  apply List.map_congr_left
  intro i hi
  have j:=List.mem_range.1 hi
  show _=stM kt T bl ((s*T.n+i)/T.n) ((s*T.n+i)%T.n)
  rw[(zBi j).1,(zBi j).2]
theorem zFN:∀s,(zDm kt T bl s).length≤s*T.n
 |0=>by simp[zDm]
 |s+1=>by
  have:=zFN s
  rw[zDm,List.length_append,Nat.succ_mul]
  split
  ·simp;omega
  ·simp;omega
end
set_option maxHeartbeats 8000000
structure DR (w0:World)(r0 r:Nat)(L:List (Value×List Nat))(w:World):Prop where
 rl:RL w0.heap.size r L (fun _=>False) w
 r0R:w.heap[r0]? =some (.cells zHy 133 (0,0))
 ne:r0≠r
 lo:w0.heap.size≤r0∧w0.heap.size≤r
 bel:Below w0.heap.size w0 w
theorem DR.below {u:World}{j r:Nat}{L:List (Value×List Nat)}{w w':World}(h:DR u j r L w)(hb:Below w.heap.size w w'):DR u j r L w':=
 ⟨h.rl.below hb,(hb.block j (Array.getElem?_eq_some_iff.1 h.r0R).1).trans h.r0R,h.ne,h.lo,h.bel.trans (hb.mono h.bel.size)⟩
theorem DR.app {J:World}{F r:Nat}{l1 Q:List (Value×List Nat)}{v D:Value}{u ys:List Nat}{w N:World}(h:DR J F r (l1++(v,u)::Q) w)(G:w.grownBy N v.ownBlock)(R:N.ownsRow J.heap.size 3 1 D (u.length+ys.length) (unV u++unV ys))(hb:D.ownBlock=v.ownBlock∨D.ownBlock=some w.heap.size):
 DR J F r (l1++(D,u++ys)::Q) (N.setCell ⟨r,l1.length,none⟩ D) where
 rl:=h.rl.app G R hb (fun j U=>U.elim)
 r0R:=by
  have W:=h.rl.own (v,u) (by simp)
  rw[zC _ _ _ _ _ h.ne,G.block F (Array.getElem?_eq_some_iff.1 h.r0R).1 (fun e=>by
   obtain⟨cur,A⟩:=zB W F e.symm
   exact zE h.r0R A (by decide) rfl)]
  exact h.r0R
 ne:=h.ne
 lo:=h.lo
 bel:=(h.bel.grown G h.bel.size (fun y X=>zK (h.rl.own (v,u) (by simp)) y X)).setCell (p:=⟨r,l1.length,none⟩) h.lo.2 _
theorem DR.one {J:World}{Z r:Nat}{l1 U:List (Value×List Nat)}{v:Value}{j:List Nat}{w:World}(x:Nat)(h:DR J Z r (l1++(v,j)::U) w)(hx:j.length≤100000000):
 ∃A N,(Builtin.append_ #[23,23] 23 #[v,.slice (some ⟨w.heap.size,0,none⟩) 1 1]).run Tryz.prog (w.alloc (.cells #[.int .i64 x] 3))=.ok A N∧DR J Z r (l1++(A,j++[x])::U) (N.setCell ⟨r,l1.length,none⟩ A)∧N.heap[r]? =some (.cells ((l1++(v,j)::U).map Prod.fst).toArray 133 (0,0))∧(∃a c,v=.slice a j.length c)∧∃a c,A=.slice a (j.length+1) c:=by
 obtain⟨i0,Q,z0,z1,z2⟩:=info_parts zBW
 have D:=h.below ((Below.refl w.heap.size w).alloc (Nat.le_refl _) (.cells #[.int .i64 x] 3))
 have R:(w.alloc (.cells #[.int .i64 x] 3)).ownsRow J.heap.size 3 1 v j.length (unV j):=D.rl.own (v,j) (by simp)
 have a2:J.heap.size≤w.heap.size:=h.bel.size
 have G:(w.alloc (.cells #[.int .i64 x] 3)).ownsRow w.heap.size 3 1 (.slice (some ⟨w.heap.size,0,none⟩) 1 1) 1 [.int .i64 x]:=zDS w x
 obtain⟨A,N,hr,X,W,hb⟩:=zV 23 Tryz.underlying23 Q z0 z1 z2 rfl (by decide) R G (by intro u hu;simp at hu;subst hu;rfl) (by omega) (by omega) (by show J.heap.size≤(w.alloc (.cells #[.int .i64 x] 3)).heap.size;simp;omega)
 refine⟨A,N,hr,D.app (ys:=[x]) W X hb,?_,zA R,zA X⟩
 rw[W.block r (Array.getElem?_eq_some_iff.1 D.rl.row).1 (fun e=>by
  obtain⟨cur,F⟩:=zB R r e.symm
  exact zE D.rl.row F (by decide) rfl)]
 exact D.rl.row
theorem DR.oneD {J:World}{Z r:Nat}{l1 U:List (Value×List Nat)}{v:Value}{j:List Nat}{w:World}(x:Nat)(h:DR J Z r (l1++(v,j)::U) w)(hx:j.length≤100000000):
 ∃A N,(Builtin.append_ #[23,23] 23 #[v,.slice (some ⟨w.heap.size,0,none⟩) 1 1]).run Tryz.prog (w.alloc (.cells #[.int .i64 x] 3)).drew=.ok A N∧DR J Z r (l1++(A,j++[x])::U) (N.setCell ⟨r,l1.length,none⟩ A)∧N.heap[r]? =some (.cells ((l1++(v,j)::U).map Prod.fst).toArray 133 (0,0))∧(∃a c,v=.slice a j.length c)∧∃a c,A=.slice a (j.length+1) c:=by
 obtain⟨i0,Q,z0,z1,z2⟩:=info_parts zBW
 have D:=h.below (((Below.refl w.heap.size w).alloc (Nat.le_refl _) (.cells #[.int .i64 x] 3)).drew)
 have R:(w.alloc (.cells #[.int .i64 x] 3)).drew.ownsRow J.heap.size 3 1 v j.length (unV j):=D.rl.own (v,j) (by simp)
 have a2:J.heap.size≤w.heap.size:=h.bel.size
 have G:(w.alloc (.cells #[.int .i64 x] 3)).drew.ownsRow w.heap.size 3 1 (.slice (some ⟨w.heap.size,0,none⟩) 1 1) 1 [.int .i64 x]:=zDS w x
 obtain⟨A,N,hr,X,W,hb⟩:=zV 23 Tryz.underlying23 Q z0 z1 z2 rfl (by decide) R G (by intro u hu;simp at hu;subst hu;rfl) (by omega) (by omega) (by show J.heap.size≤(w.alloc (.cells #[.int .i64 x] 3)).heap.size;simp;omega)
 refine⟨A,N,hr,D.app (ys:=[x]) W X hb,?_,zA R,zA X⟩
 rw[W.block r (Array.getElem?_eq_some_iff.1 D.rl.row).1 (fun e=>by
  obtain⟨cur,F⟩:=zB R r e.symm
  exact zE D.rl.row F (by decide) rfl)]
 exact D.rl.row
theorem zF6 (kt:Nat→Int)(B v:Nat)(vH vU:Value)(hp:List (ByteArray×Nat))(un:List Nat)(t0:ByteArray)(w:World)(H:RB kt B v vH vU hp un w)(U:RSet kt t0 (hp.map Prod.fst)):
 Calls Tryz.prog 86 #[.pointer (some ⟨v,0,none⟩)] w fun e w'=>e=.returned (.int .i64 ((tT t0).L.ns:Nat))∧Below w.heap.size w w':=by
 have G:zt (tT t0):=zAz (zY (U.rd t0 U.mem0)).2.1
 obtain⟨h0,g0,cH,rfl,hm,c0,c1,W⟩:=H.top U
 obtain⟨Z,d1,d2,d3⟩:=W.nums
 obtain⟨aL,cL,d7,_⟩:=W.leaves
 obtain⟨m,Q⟩:∃x,hp.length=x:=⟨_,rfl⟩
 obtain⟨T,J⟩:∃x,tT t0=x:=⟨_,rfl⟩
 rw[Q]at c0 hm
 rw[J]at G Z d1 d7 ⊢
 have X:=G.k1;have A:=G.km;have u:=G.cnt
 have j:T.L.cnt/(T.L.K+T.L.M)=T.L.ns:=by
  show T.L.ns*(T.L.K+T.L.M)/(T.L.K+T.L.M)=T.L.ns
  exact Nat.mul_div_cancel _ (by omega)
 obtain⟨K,D⟩:∃x,T.L.K=x:=⟨_,rfl⟩
 obtain⟨M,F⟩:∃x,T.L.M=x:=⟨_,rfl⟩
 obtain⟨cnt,N⟩:∃x,T.L.cnt=x:=⟨_,rfl⟩
 obtain⟨ns,R⟩:∃x,T.L.ns=x:=⟨_,rfl⟩
 obtain⟨n,hn⟩:∃x,K+M=x:=⟨_,rfl⟩
 rw[D]at Z X A j
 rw[F]at d1 A j
 rw[N]at d7 u j
 rw[R]at j ⊢
 rw[hn]at j A
 have a9:(0:Int)<(m:Int):=by omega
 have aC:(K:Int)+(M:Int)=(n:Int):=by omega
 have aA:¬(n:Int)=0:=by omega
 have aB:((n:Int) == 0)=false:=by simp;omega
 have a5:ns≤512:=by rw[←j];exact Nat.le_trans (Nat.div_le_self _ _) u
 have u1:wrap64 (ns:Int)=(ns:Int):=by unfold wrap64;omega
 have hq:(cnt:Int)/(n:Int)=(ns:Int):=by rw[←j];rfl
 have aD:Int.tdiv (cnt:Int) (n:Int)=(ns:Int):=by rw[←j];rfl
 clear H U G W J Q D F N R j hn d2 d3
 go_enter Tryz.func86,Tryz.ntmps86
 go_wp2_with fail
 go_quiet (fail)
 go_wp2_with fail
 go_ret
 exact⟨rfl,below_drewN (Below.refl _ _) _⟩
theorem zPJ (kt:Nat→Int)(B v:Nat)(vH vU:Value)(hp:List (ByteArray×Nat))(un:List Nat)(t0:ByteArray)(w:World)(H:RB kt B v vH vU hp un w)(A:RSet kt t0 (hp.map Prod.fst)):
 Calls Tryz.prog 29 #[.pointer (some ⟨v,0,none⟩)] w fun e w'=>e=.returned (.string (tT t0).root)∧w'=w:=by
 obtain⟨Q,g0,N,rfl,G,c0,c1,D⟩:=H.top A
 have F:=D.cells.2
 obtain⟨m,j⟩:∃x,hp.length=x:=⟨_,rfl⟩
 obtain⟨rt,u⟩:∃x,(tT t0).root=x:=⟨_,rfl⟩
 rw[j]at c0 G
 rw[u]at F ⊢
 have J:(0:Int)<(m:Int):=by omega
 clear H A D j u
 go_enter Tryz.func29,Tryz.ntmps29
 go_wp2_with fail
 go_ret
 exact⟨rfl,rfl⟩
theorem zMc (kt:Nat→Int)(B v:Nat)(vH vU:Value)(hp:List (ByteArray×Nat))(un:List Nat)(t0:ByteArray)(w:World)(H:RB kt B v vH vU hp un w)(hS:RSet kt t0 (hp.map Prod.fst)):
 Calls Tryz.prog 27 #[.pointer (some ⟨v,0,none⟩)] w fun e w'=>e=.returned (.agg #[.int .i64 ((tT t0).L.K:Nat),.int .i64 ((tT t0).L.M:Nat),.int .i64 ((tT t0).L.C:Nat),.int .i64 ((tT t0).L.V:Nat)])∧Below w.heap.size w w':=by
 obtain⟨h0,g0,cH,rfl,hm,c0,c1,hh⟩:=H.top hS
 obtain⟨U,X,d2,d3⟩:=hh.nums
 obtain⟨m,R⟩:∃x,hp.length=x:=⟨_,rfl⟩
 obtain⟨K,G⟩:∃x,(tT t0).L.K=x:=⟨_,rfl⟩
 obtain⟨M,J⟩:∃x,(tT t0).L.M=x:=⟨_,rfl⟩
 obtain⟨C,F⟩:∃x,(tT t0).L.C=x:=⟨_,rfl⟩
 obtain⟨V,N⟩:∃x,(tT t0).L.V=x:=⟨_,rfl⟩
 rw[R]at c0 hm
 rw[G]at U
 rw[J]at X
 rw[F]at d2
 rw[N]at d3
 rw[G,J,F,N]
 have aE:(0:Int)<(m:Int):=by omega
 obtain⟨W,hW⟩:∃W,w.alloc (.cells #[.int .i64 0,.int .i64 0,.int .i64 0,.int .i64 0] 81)=W:=⟨_,rfl⟩
 have D:Below w.heap.size w W:=by rw[←hW];exact (Below.refl _ _).alloc (Nat.le_refl _) _
 have u:W.heap[w.heap.size]? =some (.cells #[.int .i64 0,.int .i64 0,.int .i64 0,.int .i64 0] 81 (0,0)):=by rw[←hW];exact heap_alloc_new _ _
 obtain⟨r,hr⟩:∃r,w.heap.size=r:=⟨_,rfl⟩
 have y0:=(D.cell (p:=⟨v,0,none⟩) (block_lt_of_cell c0)).trans c0
 have y1:=(D.cell (p:=⟨g0,0,none⟩) (block_lt_of_cell c1)).trans c1
 have x0:=(D.cell (p:=⟨h0,0,none⟩) (block_lt_of_cell U)).trans U
 have x1:=(D.cell (p:=⟨h0,1,none⟩) (block_lt_of_cell X)).trans X
 have x2:=(D.cell (p:=⟨h0,2,none⟩) (block_lt_of_cell d2)).trans d2
 have x3:=(D.cell (p:=⟨h0,3,none⟩) (block_lt_of_cell d3)).trans d3
 rw[hr]at u
 have p0:W.cell? ⟨r,0,none⟩=some (.int .i64 0):=cell_of_row _ _ _ _ 81 _ u
 have p1:W.cell? ⟨r,1,none⟩=some (.int .i64 0):=cell_of_row _ _ _ _ 81 _ u
 have p2:W.cell? ⟨r,2,none⟩=some (.int .i64 0):=cell_of_row _ _ _ _ 81 _ u
 have p3:W.cell? ⟨r,3,none⟩=some (.int .i64 0):=cell_of_row _ _ _ _ 81 _ u
 have fz:∀j,W.frozen? ⟨r,j,none⟩=false:=fun j=>frozen_of_row _ _ _ _ 81 u
 have HB:Hid _:=D
 have Q:Hid _:=u
 have a6:Hid (w.heap.size=r):=hr
 clear H hS hh R G J F N c0 c1 U X d2 d3 D u
 go_enter Tryz.func27,Tryz.ntmps27
 go_wp2_with fail
 obtain⟨Z,hZ⟩:∃Z,(((W.setCell ⟨r,0,none⟩ (.int .i64 K)).setCell ⟨r,1,none⟩ (.int .i64 M)).setCell ⟨r,2,none⟩ (.int .i64 C)).setCell ⟨r,3,none⟩ (.int .i64 V)=Z:=⟨_,rfl⟩
 have a8:Z.heap[r]? =some (.cells #[.int .i64 K,.int .i64 M,.int .i64 C,.int .i64 V] 81 (0,0)):=by
  rw[←hZ]
  exact zH _ _ _ _ _ _ _ (zH _ _ _ _ _ _ _ (zH _ _ _ _ _ _ _ (zH _ _ _ _ _ _ _ Q.out)))
 have a7:Below w.heap.size w Z:=by
  rw[←hZ]
  have A:w.heap.size≤r:=Nat.le_of_eq a6.out
  exact (((HB.out.setCell (p:=⟨r,0,none⟩) A _).setCell (p:=⟨r,1,none⟩) A _).setCell (p:=⟨r,2,none⟩) A _).setCell (p:=⟨r,3,none⟩) A _
 refine bodyPost_ret (v:=.agg #[.int .i64 K,.int .i64 M,.int .i64 C,.int .i64 V]) ?_ rfl ?_
 ·rw[hZ]
  exact results_cell_row Tryz.results27 _ _ r 81 _ (0,0) _ rfl a8 Tryz.underlying81 rfl (by kernel_rfl)
 ·rw[hZ]
  exact⟨rfl,a7⟩
theorem zJS (es:List (ByteArray×Nat))(i:Nat)(h:i<es.length):enV (es.take (i+1))=enV (es.take i)++[.string (nmE es i),.int .i64 (lnE es i:Nat)]:=by
 have e:es.take (i+1)=es.take i++[es[i]]:=by rw[List.take_add_one,List.getElem?_eq_getElem h];rfl
 rw[e]
 unfold nmE lnE enV
 rw[List.getElem?_eq_getElem h,List.flatMap_append]
 rfl
theorem zJ3 (kt:Nat→Int)(B v:Nat)(vH vU:Value)(hp:List (ByteArray×Nat))(un:List Nat)(t0:ByteArray)(w:World)(H:RB kt B v vH vU hp un w)(hS:RSet kt t0 (hp.map Prod.fst)):
 Calls Tryz.prog 32 #[.pointer (some ⟨v,0,none⟩)] w fun e w'=>∃U,e=.returned U∧w'.ownsRow w.heap.size 131 2 U (tT t0).L.es.length (enV (tT t0).L.es)∧Below w.heap.size w w':=by
 have Q:(tT t0).L.es.length≤16∧zM (tT t0).L.es≤4096:=zAQ (RS.on t0)
 obtain⟨h0,g0,cH,rfl,hm,c0,c1,hh⟩:=H.top hS
 obtain⟨aE,cE,Z,D⟩:=hh.ents
 obtain⟨m,a6⟩:∃x,hp.length=x:=⟨_,rfl⟩
 obtain⟨es,a1⟩:∃x,(tT t0).L.es=x:=⟨_,rfl⟩
 rw[a6]at c0 hm
 rw[a1]at Z D Q ⊢
 obtain⟨ne,A⟩:∃x,es.length=x:=⟨_,rfl⟩
 have b0:(0:Int)<(m:Int):=by omega
 have aH:ne≤16:=by rw[←A];exact Q.1
 rw[A]at Z D ⊢
 have HV:Hid (∀X:World,Below w.heap.size w X→X.cell? ⟨v,0,none⟩=some (.slice (some ⟨g0,0,none⟩) m cH)∧X.cell? ⟨g0,0,none⟩=some (.pointer (some ⟨h0,0,none⟩))∧X.cell? ⟨h0,5,none⟩=some (.slice aE ne cE)):=fun X hX=>
  ⟨(hX.cell (p:=⟨v,0,none⟩) (block_lt_of_cell c0)).trans c0,(hX.cell (p:=⟨g0,0,none⟩) (block_lt_of_cell c1)).trans c1,(hX.cell (p:=⟨h0,5,none⟩) (block_lt_of_cell Z)).trans Z⟩
 have aA:Hid (∀(X:World),Below w.heap.size w X→∀j,j<ne→∃b,aE=some ⟨b,0,none⟩∧X.cell? ⟨b,j*2,none⟩=some (.string (nmE es j))∧X.cell? ⟨b,j*2+1,none⟩=some (.int .i64 (lnE es j:Nat))):=fun X hX j hj=>by
  obtain⟨b,e,_,q1,q2⟩:=zd A.symm (zD D (fun q hq=>hX.block q (zG D q hq))) j hj
  exact⟨b,e,q1,q2⟩
 obtain⟨i0,aF,z0,z1,z2⟩:=info_parts zHe
 have W:Hid (es.length=ne):=A
 clear H hS hh a6 a1 c0 c1 Z D Q A
 go_enter Tryz.func32,Tryz.ntmps32
 go_wp2_with fail
 go_loopw [3,4] (fun ov iv wr=>∃(i:Nat) (U:Value),i≤ne∧U=ov∧iv=.int .i64 i∧wr.ownsRow w.heap.size 131 2 U i (enV (es.take i))∧Below w.heap.size w wr) (fun _ iv _=>ne-(intOf iv).toNat)
 case atStart=>exact⟨0,_,Nat.zero_le _,rfl,rfl,⟨rfl,.inl ⟨rfl,rfl⟩⟩,Below.refl _ _⟩
 case round=>
  obtain⟨i,U,hi,rfl,rfl,R,hb⟩:=hrel
  obtain⟨y0,y1,y5⟩:=HV.out wr hb
  have HB:Hid (Below w.heap.size w wr):=hb
  by_cases a4:i<ne
  ·have a5:(i:Int)<(ne:Int):=by omega
   have aG:i<es.length:=by rw[W.out];exact a4
   obtain⟨b,rfl,q1,q2⟩:=aA.out wr hb i a4
   have N:Hid _:=zJS es i aG
   obtain⟨nm,a7⟩:∃x,nmE es i=x:=⟨_,rfl⟩
   obtain⟨ln,a2⟩:∃x,lnE es i=x:=⟨_,rfl⟩
   rw[a7]at q1 N
   rw[a2]at q2 N
   have F:Below wr.heap.size wr (wr.alloc (.cells #[.string nm,.int .i64 ln] 131)):=(Below.refl _ _).alloc (Nat.le_refl _) _
   have J:(wr.alloc (.cells #[.string nm,.int .i64 ln] 131)).ownsRow wr.heap.size 131 2 (.slice (some ⟨wr.heap.size,0,none⟩) 1 1) 1 [.string nm,.int .i64 ln]:=⟨rfl,.inr ⟨wr.heap.size,1,#[.string nm,.int .i64 ln],rfl,Nat.le_refl _,heap_alloc_new _ _,Nat.le_refl _,by unfold maxLen;omega,rfl,rfl⟩⟩
   obtain⟨v',w2,hr,G,hg,aD⟩:=zV 82 Tryz.underlying82 aF z0 z1 z2 rfl (by decide) (R.alloc (.cells #[.string nm,.int .i64 ln] 131)) J (by intro u hu;simp at hu;rcases hu with rfl|rfl<;>rfl) (by omega) (by omega) (Nat.le_trans hb.size F.size)
   obtain⟨av,cv,rfl⟩:=zA R
   obtain⟨aU,aX,rfl⟩:=zA G
   rw[←N.out]at G
   have aB:Hid _:=G
   have a9:Hid (Below w.heap.size w w2):=(hb.trans (F.mono hb.size)).grown hg (Nat.le_trans hb.size F.size) (fun q hq=>zK R q hq)
   have HR:Hid _:=hr
   clear R G hr hg aD F J a7 a2 hb
   go_wp2_with (at_builtin;refine zJ rfl (.tmp 19) (.tmp 32) 82 rfl _ _ _ (by simp[Act.eval]) (by simp[Act.eval]) _ HR.out ?_)
   go_roundw
   case rel=>exact⟨i+1,_,by omega,rfl,by go_num,aB.out,a9.out⟩
   case measure=>simp[intOf];omega
  ·obtain rfl:ne=i:=by omega
   have a5:¬(ne:Int)<(ne:Int):=by omega
   have a8:wr.ownsRow w.heap.size 131 2 U ne (enV es):=by rw[List.take_of_length_le (by rw[W.out];exact Nat.le_refl _)]at R;exact R
   have HO:Hid _:=a8
   clear R a8 hb
   go_wp2_with fail
   go_ret
   exact⟨_,rfl,HO.out,HB.out⟩
def RVf (kt:Nat→Int)(T:TT)(bl:Nat→ByteArray)(rd:Nat→Bool)(un:List Nat)(w:World)(e:Ending)(w':World):Prop:=
 ∃a b c d u:Value,e=.returned (.agg (zAc a b c d u))∧Below w.heap.size w w'∧w'.ownsRow w.heap.size 3 1 a un.length (unV un)∧w'.ownsRow w.heap.size 3 1 b (abF rd T.L.V).length (unV (abF rd T.L.V))∧w'.ownsRow w.heap.size 3 1 c (baF kt T bl T.L.ns).length (unV (baF kt T bl T.L.ns))∧w'.ownsRow w.heap.size 3 1 d (fsF kt T bl 1 T.L.ns).length (unV (fsF kt T bl 1 T.L.ns))∧w'.ownsRow w.heap.size 3 1 u (fsF kt T bl 2 T.L.ns).length (unV (fsF kt T bl 2 T.L.ns))
theorem zKE (un:List Nat)(i:Nat)(h:i<un.length):un.take (i+1)=un.take i++[un.getD i 0]:=by
 rw[List.take_add_one,List.getElem?_eq_getElem h,List.getD_eq_getElem?_getD,List.getElem?_eq_getElem h]
 rfl
def inV (hp:List (ByteArray×Nat))(v k:Nat):Bool:=(hp.take k).any fun x=>decide ((tT x.1).num=v)
theorem zJd (hp:List (ByteArray×Nat))(v k:Nat)(x:ByteArray×Nat)(h:hp[k]? =some x):inV hp v (k+1)=(inV hp v k||decide ((tT x.1).num=v)):=by
 unfold inV
 rw[List.take_add_one,h,List.any_append]
 simp
theorem zLp {hp:List (ByteArray×Nat)}{rd:Nat→Bool}(j:∀v,rd v=true↔∃x∈hp.map Prod.fst,(tT x).num=v)(v:Nat):inV hp v hp.length=rd v:=by
 unfold inV
 rw[List.take_length]
 have A:(hp.any fun x=>decide ((tT x.1).num=v))=true↔rd v=true:=by
  rw[List.any_eq_true,j]
  constructor
  ·rintro ⟨x,u,e⟩
   exact⟨x.1,List.mem_map.2 ⟨x,u,rfl⟩,of_decide_eq_true e⟩
  ·rintro ⟨y,D,e⟩
   obtain⟨x,u,rfl⟩:=List.mem_map.1 D
   exact⟨x,u,decide_eq_true e⟩
 cases h:rd v with
 |true=>exact A.2 h
 |false=>
  cases h2:(hp.any fun x=>decide ((tT x.1).num=v)) with
  |true=>rw[A.1 h2]at h;cases h
  |false=>rfl
theorem zOC {A w:World}{u:Nat}{D:Array Value}(h:w.heap[u]? =some (.cells D 133 (0,0)))(G:A.heap.size≤u)(hb:Below A.heap.size A w)(i:Nat)(v:Value):(w.setCell ⟨u,i,none⟩ v).heap[u]? =some (.cells (D.setIfInBounds i v) 133 (0,0))∧Below A.heap.size A (w.setCell ⟨u,i,none⟩ v)∧(∀(j:Nat) (c:Array Value) (t:TypeId),t≠133→w.heap[j]? =some (.cells c t (0,0))→(w.setCell ⟨u,i,none⟩ v).heap[j]? =some (.cells c t (0,0))):=
 ⟨zH _ _ _ _ _ _ _ h,hb.setCell (p:=⟨u,i,none⟩) G _,fun j c t J F=>by rw[zC _ _ _ _ _ (zE F h J)];exact F⟩
theorem zMd (kt:Nat→Int)(B v:Nat)(vH vU:Value)(hp:List (ByteArray×Nat))(un:List Nat)(t0:ByteArray)(w:World)(H:RB kt B v vH vU hp un w)(hS:RSet kt t0 (hp.map Prod.fst))(hG:Gr kt w)(hl:hp.length≤100000000)(dZ:un.length≤100000000)(rd:Nat→Bool)(aK:∀v,rd v=true↔∃x∈hp.map Prod.fst,(tT x).num=v):
 Calls Tryz.prog 62 #[.pointer (some ⟨v,0,none⟩)] w fun e w'=>RVf kt (tT t0) (blH (hp.map Prod.fst)) rd un w e w':=by
 have hT:zt (tT t0):=zAz (zY (hS.rd t0 hS.mem0)).2.1
 obtain⟨bl,bL⟩:∃x,blH (hp.map Prod.fst)=x:=⟨_,rfl⟩
 obtain⟨T,aQ⟩:∃x,tT t0=x:=⟨_,rfl⟩
 have aW:Hid (∀(X:World) (x:Nat),Below w.heap.size w X→x<(tT t0).L.cnt→Calls Tryz.prog 85 #[.pointer (some ⟨v,0,none⟩),.int .i64 x] X fun e w'=>GoD kt t0 (hp.map Prod.fst) x X e w'):=fun X x hX hx=>zN2 kt B v _ vU hp un t0 x X (H.low hX) hS (hG.below hX) hx hl
 have bD:Hid (∀X:World,Below w.heap.size w X→Calls Tryz.prog 86 #[.pointer (some ⟨v,0,none⟩)] X fun e w'=>e=.returned (.int .i64 ((tT t0).L.ns:Nat))∧Below X.heap.size X w'):=fun X hX=>zF6 kt B v _ vU hp un t0 X (H.low hX) hS
 have bE:Hid (∀(X:World) (s:Nat),Below w.heap.size w X→s<(tT t0).L.ns→Calls Tryz.prog 87 #[.pointer (some ⟨v,0,none⟩),.int .i64 s] X fun e w'=>StD kt (tT t0) (blH (hp.map Prod.fst)) s X e w'):=fun X s hX hs=>zIW kt B v _ vU hp un t0 s X (H.low hX) hS (hG.below hX) hs hl
 unfold GoD at aW
 rw[bL,aQ]at aW bE
 rw[aQ]at bD
 obtain⟨h0,g0,cH,rfl,hm,c0,c1,hh⟩:=H.top hS
 obtain⟨_,_,_,d3⟩:=hh.nums
 obtain⟨aL,cL,d7,_⟩:=hh.leaves
 have b4:=H.oU
 obtain⟨aU,cU,rfl⟩:=zA b4
 have c9:w.cell? ⟨v,1,none⟩=some (.slice aU un.length cU):=cell_of_row _ _ _ _ 76 _ H.row
 obtain⟨m,b2⟩:∃x,hp.length=x:=⟨_,rfl⟩
 obtain⟨nu,bM⟩:∃x,un.length=x:=⟨_,rfl⟩
 have dI:Hid (∀(X:World) (j:Nat) (x:ByteArray×Nat),Below w.heap.size w X→hp[j]? =some x→X.cell? ⟨g0,j,none⟩=some (.pointer (some ⟨x.2,0,none⟩))∧X.cell? ⟨x.2,6,none⟩=some (.int .i64 ((tT x.1).num:Nat))):=fun X j x hX hx=>by
  have hR:=H.low hX
  have dX:hp.length=(hp.map Prod.snd).length:=by simp
  have cO:=hR.oH
  rw[dX]at cO
  obtain⟨g,e,hc⟩:=zB1 cO (i:=j) (x:=x.2) (by rw[List.getElem?_map,hx];rfl)
  cases e
  exact⟨hc,(hR.hd x (List.mem_of_getElem? hx)).cells.1⟩
 have dJ:Hid (∀(X:World) (j:Nat),Below w.heap.size w X→j<nu→∃g,aU=some ⟨g,0,none⟩∧X.cell? ⟨g,j,none⟩=some (.int .i64 (un.getD j 0:Nat))):=fun X j hX hj=>by
  have cP:=zD b4 (fun q hq=>hX.block q (zG b4 q hq))
  exact zEH cP rfl j (by omega)
 rw[b2]at c0 hm hl
 rw[bM]at c9 dZ
 rw[aQ]at hT d3 d7
 rw[bL,aQ]
 have cM:=hT.cnt;have cS:=hT.v16
 obtain⟨V,bJ⟩:∃x,T.L.V=x:=⟨_,rfl⟩
 obtain⟨cnt,b1⟩:∃x,T.L.cnt=x:=⟨_,rfl⟩
 obtain⟨ns,b3⟩:∃x,T.L.ns=x:=⟨_,rfl⟩
 have b6:baN kt T bl cnt=baF kt T bl ns:=by rw[←b1,←b3,←zKT kt T bl T.L.ns];rfl
 have fN:ns≤512:=by
  have h1:T.L.ns*1≤T.L.ns*(T.L.K+T.L.M):=Nat.mul_le_mul_left _ (by have:=hT.k1;omega)
  have h2:T.L.ns*(T.L.K+T.L.M)=cnt:=b1
  omega
 rw[bJ]at d3 cS
 rw[b1]at d7 cM aW
 rw[b3]at bD bE
 have HV:Hid (∀X:World,Below w.heap.size w X→X.cell? ⟨v,0,none⟩=some (.slice (some ⟨g0,0,none⟩) m cH)∧X.cell? ⟨v,1,none⟩=some (.slice aU nu cU)∧X.cell? ⟨g0,0,none⟩=some (.pointer (some ⟨h0,0,none⟩))∧X.cell? ⟨h0,3,none⟩=some (.int .i64 V)∧X.cell? ⟨h0,7,none⟩=some (.slice aL cnt cL)):=fun X hX=>
  ⟨(hX.cell (p:=⟨v,0,none⟩) (block_lt_of_cell c0)).trans c0,(hX.cell (p:=⟨v,1,none⟩) (block_lt_of_cell c9)).trans c9,(hX.cell (p:=⟨g0,0,none⟩) (block_lt_of_cell c1)).trans c1,(hX.cell (p:=⟨h0,3,none⟩) (block_lt_of_cell d3)).trans d3,(hX.cell (p:=⟨h0,7,none⟩) (block_lt_of_cell d7)).trans d7⟩
 have dF:Hid (∀x,inV hp x m=rd x):=fun x=>by rw[←b2];exact zLp aK x
 have dG:Hid (hp.length=m):=b2
 have bT:Hid (un.length=nu):=bM
 have dB:Hid _:=b6
 have dK:Hid (T.L.V=V):=bJ
 have dH:Hid (T.L.ns=ns):=b3
 have g6:(0:Int)<(m:Int):=by omega
 obtain⟨W1,aZ⟩:∃W,w.alloc (.cells zHy 133)=W:=⟨_,rfl⟩
 obtain⟨W2,b0⟩:∃W,W1.alloc (.cells zHy 133)=W:=⟨_,rfl⟩
 obtain⟨R,bO⟩:∃x,w.heap.size=x:=⟨_,rfl⟩
 obtain⟨r,hr⟩:∃x,W1.heap.size=x:=⟨_,rfl⟩
 have D0:Hid (DR w R r [(.slice none 0 0,[]),(.slice none 0 0,[]),(.slice none 0 0,[]),(.slice none 0 0,[]),(.slice none 0 0,[])] W2):=by
  have a9:Below w.heap.size w W1:=by rw[←aZ];exact (Below.refl _ _).alloc (Nat.le_refl _) _
  have cJ:Below W1.heap.size W1 W2:=by rw[←b0];exact (Below.refl _ _).alloc (Nat.le_refl _) _
  have e1:W1.heap[R]? =some (.cells zHy 133 (0,0)):=by rw[←aZ,←bO];exact heap_alloc_new _ _
  have aA:R<W1.heap.size:=(Array.getElem?_eq_some_iff.1 e1).1
  refine⟨⟨?_,fun x hx=> ?_,?_,fun x hx j hj hF=>hF⟩,(cJ.block R aA).trans e1,by omega,⟨Nat.le_of_eq bO,by rw[←hr];exact a9.size⟩,a9.trans (cJ.mono a9.size)⟩
  ·rw[←b0,←hr];exact heap_alloc_new _ _
  ·have:x=(.slice none 0 0,[]):=by simp at hx;exact hx
   subst this
   exact zBZ _ _
  ·simp[zEd]
 have cG:w.alloc (.cells #[.slice none 0 0,.slice none 0 0,.slice none 0 0,.slice none 0 0,.slice none 0 0] 133)=W1:=aZ
 have cI:W1.alloc (.cells #[.slice none 0 0,.slice none 0 0,.slice none 0 0,.slice none 0 0,.slice none 0 0] 133)=W2:=b0
 clear H hS hG hT hh aQ bL c0 c1 d3 d7 c9 b4 b2 bM bJ b1 b3 b6 aK aZ b0
 go_enter Tryz.func62,Tryz.ntmps62
 go_wp2_with fail
 clear cG cI bO hr
 go_loopw [4] (fun iv wr=>∃(i:Nat) (vu:Value),i≤nu∧iv=.int .i64 i∧DR w R r [(vu,un.take i),(.slice none 0 0,[]),(.slice none 0 0,[]),(.slice none 0 0,[]),(.slice none 0 0,[])] wr) (fun iv _=>nu-(intOf iv).toNat)
 case atStart=>exact⟨0,_,Nat.zero_le _,rfl,D0.out⟩
 case round=>
  obtain⟨i,vu,hi,rfl,F⟩:=hrel
  have HD:Hid (DR w R r [(vu,un.take i),(.slice none 0 0,[]),(.slice none 0 0,[]),(.slice none 0 0,[]),(.slice none 0 0,[])] wr):=F
  obtain⟨y0,y9,y1,y3,y7⟩:=HV.out wr F.bel
  by_cases aA:i<nu
  ·have a6:(i:Int)<(nu:Int):=by omega
   have dU:i<un.length:=by rw[bT.out];exact aA
   obtain⟨gU,rfl,x0⟩:=dJ.out wr i F.bel aA
   have bW:Hid _:=zKE un i dU
   have cR:(un.take i).length=i:=by rw[List.length_take];omega
   obtain⟨x,hx⟩:∃x,un.getD i 0=x:=⟨_,rfl⟩
   rw[hx]at x0 bW
   obtain⟨v',w2,D,Q,u,⟨au,cu,rfl⟩,⟨J,N,rfl⟩⟩:=DR.oneD (l1:=[]) x F (by omega)
   have p0:wr.cell? ⟨r,0,none⟩=some (.slice au (un.take i).length cu):=cell_of_row _ _ _ _ 133 _ F.rl.row
   have pz:(wr.alloc (.cells #[.int .i64 x] 3)).cell? ⟨r,0,none⟩=some (.slice au (un.take i).length cu):=by rw[World.cell?_alloc_lt _ _ _ (block_lt_of_cell p0)];exact p0
   have q0:w2.cell? ⟨r,0,none⟩=some (.slice au (un.take i).length cu):=cell_of_row _ _ _ _ 133 _ u
   have q9:w2.frozen? ⟨r,0,none⟩=false:=frozen_of_row _ _ _ _ 133 u
   have HR:Hid _:=D
   have G:Hid (DR w R r [(.slice J ((un.take i).length+1) N,un.take (i+1)),(.slice none 0 0,[]),(.slice none 0 0,[]),(.slice none 0 0,[]),(.slice none 0 0,[])] (w2.setCell ⟨r,0,none⟩ (.slice J ((un.take i).length+1) N))):=by rw[bW.out];exact Q
   clear F Q D u hx
   rw[cR]at p0 pz q0 HR G
   clear cR
   go_wp2_with fail
   go_region_law (refine zAF rfl (.tmp 24) (.tmp 32) 23 rfl _ _ _ (by simp[Act.eval]) (by simp[Act.eval]) _ HR.out ?_)
   all_goals go_wp2_with fail
   all_goals go_roundw
   all_goals first|exact⟨i+1,_,by omega,by go_num,G.out⟩|(simp[intOf];omega)
  ·obtain rfl:nu=i:=by omega
   have a6:¬(nu:Int)<(nu:Int):=by omega
   have dC:Hid (DR w R r [(vu,un),(.slice none 0 0,[]),(.slice none 0 0,[]),(.slice none 0 0,[]),(.slice none 0 0,[])] wr):=by
    have:=F
    rw[List.take_of_length_le (Nat.le_of_eq bT.out)]at this
    exact this
   clear F HD
   go_wp2_with fail
   clear y0 y9 y1 y3 y7
   go_loopw [5,6,7] (fun iv _ _ wr=>∃(i:Nat) (va:Value),i≤V∧iv=.int .i64 i∧DR w R r [(vu,un),(va,abF rd i),(.slice none 0 0,[]),(.slice none 0 0,[]),(.slice none 0 0,[])] wr) (fun iv _ _ _=>V-(intOf iv).toNat)
   case atStart=>exact⟨0,_,Nat.zero_le _,rfl,dC.out⟩
   case round=>
    obtain⟨i,va,hi,rfl,F⟩:=hrel
    have HD:Hid (DR w R r [(vu,un),(va,abF rd i),(.slice none 0 0,[]),(.slice none 0 0,[]),(.slice none 0 0,[])] wr):=F
    obtain⟨y0,y9,y1,y3,y7⟩:=HV.out wr F.bel
    by_cases aA:i<V
    ·have a6:(i:Int)<(V:Int):=by omega
     clear F
     go_wp2_with fail
     clear y0 y9 y1 y3 y7
     go_loopw [6,7] (fun bv kv wr=>∃k:Nat,k≤m∧kv=.int .i64 k∧bv=.bool (inV hp i k)∧DR w R r [(vu,un),(va,abF rd i),(.slice none 0 0,[]),(.slice none 0 0,[]),(.slice none 0 0,[])] wr) (fun _ kv _=>m-(intOf kv).toNat)
     case atStart=>exact⟨0,Nat.zero_le _,rfl,rfl,HD.out⟩
     case round=>
      obtain⟨k,hk,rfl,rfl,F⟩:=hrel
      have aV:Hid (DR w R r [(vu,un),(va,abF rd i),(.slice none 0 0,[]),(.slice none 0 0,[]),(.slice none 0 0,[])] wr):=F
      obtain⟨y0,y9,y1,y3,y7⟩:=HV.out wr F.bel
      by_cases dW:k<m
      ·have cN:(k:Int)<(m:Int):=by omega
       obtain⟨x,hx⟩:∃x,hp[k]? =some x:=⟨_,List.getElem?_eq_getElem (by rw[dG.out];exact dW)⟩
       have bC:Hid _:=zJd hp i k x hx
       cases hin:inV hp i k with
       |true=>
        have aP:Hid (inV hp i (k+1)=true):=by show _=_;rw[bC.out,hin];rfl
        clear F hin hx
        go_wp2_with fail
        go_roundw
        case rel=>exact⟨k+1,by omega,by go_num,by rw[aP.out],aV.out⟩
        case measure=>simp[intOf];omega
       |false=>
        obtain⟨x0,x1⟩:=dI.out wr k x F.bel hx
        obtain⟨nx,aR⟩:∃y,(tT x.1).num=y:=⟨_,rfl⟩
        rw[aR]at x1
        by_cases hq:nx=i
        ·have q1:((nx:Int) == (i:Int))=true:=by simp;omega
         have aP:Hid (inV hp i (k+1)=true):=by show _=_;rw[bC.out,hin,aR,decide_eq_true hq];rfl
         clear F hin hx aR hq
         go_wp2_with fail
         go_roundw
         case rel=>exact⟨k+1,by omega,by go_num,by rw[aP.out],aV.out⟩
         case measure=>simp[intOf];omega
        ·have q1:((nx:Int) == (i:Int))=false:=by simp;omega
         have aP:Hid (inV hp i (k+1)=false):=by show _=_;rw[bC.out,hin,aR,decide_eq_false hq];rfl
         clear F hin hx aR hq
         go_wp2_with fail
         go_roundw
         case rel=>exact⟨k+1,by omega,by go_num,by rw[aP.out],aV.out⟩
         case measure=>simp[intOf];omega
      ·obtain rfl:m=k:=by omega
       have cN:¬(m:Int)<(m:Int):=by omega
       rw[dF.out i]
       cases aK:rd i with
       |true=>
        have aH:Hid (abF rd (i+1)=abF rd i):=by show _=_;rw[abF,if_pos aK]
        clear F aK
        go_wp2_with fail
        go_roundw
        case rel=>exact⟨i+1,va,by omega,by go_num,by rw[aH.out];exact aV.out⟩
        case measure=>simp[intOf];omega
       |false=>
        have aH:Hid (abF rd (i+1)=abF rd i++[i]):=by show _=_;rw[abF,if_neg (by rw[aK];simp)]
        have bK:=zC4 rd i
        obtain⟨v',w2,D,Q,u,⟨au,cu,rfl⟩,⟨J,N,rfl⟩⟩:=DR.one (l1:=[(vu,un)]) i F (by omega)
        obtain⟨la,Z⟩:∃x,(abF rd i).length=x:=⟨_,rfl⟩
        have p0:wr.cell? ⟨r,1,none⟩=some (.slice au (abF rd i).length cu):=cell_of_row _ _ _ _ 133 _ F.rl.row
        have q0:w2.cell? ⟨r,1,none⟩=some (.slice au (abF rd i).length cu):=cell_of_row _ _ _ _ 133 _ u
        have q9:w2.frozen? ⟨r,1,none⟩=false:=frozen_of_row _ _ _ _ 133 u
        have HR:Hid _:=D
        have G:Hid (DR w R r [(vu,un),(.slice J ((abF rd i).length+1) N,abF rd (i+1)),(.slice none 0 0,[]),(.slice none 0 0,[]),(.slice none 0 0,[])] (w2.setCell ⟨r,1,none⟩ (.slice J ((abF rd i).length+1) N))):=by rw[aH.out];exact Q
        rw[Z]at p0 q0 HR G
        clear F Q D u aK bK Z
        go_wp2_with (at_builtin;refine zJ rfl (.tmp 76) (.tmp 78) 23 rfl _ _ _ (by simp[Act.eval]) (by simp[Act.eval]) _ HR.out ?_)
        go_roundw
        case rel=>exact⟨i+1,_,by omega,by go_num,G.out⟩
        case measure=>simp[intOf];omega
    ·obtain rfl:V=i:=by omega
     have a6:¬(V:Int)<(V:Int):=by omega
     clear F
     go_wp2_with fail
     clear y0 y9 y1 y3 y7
     go_loopw [8,9,10] (fun iv _ _ wr=>∃(i:Nat) (vb:Value),i≤cnt∧iv=.int .i64 i∧DR w R r [(vu,un),(va,abF rd V),(vb,baN kt T bl i),(.slice none 0 0,[]),(.slice none 0 0,[])] wr) (fun iv _ _ _=>cnt-(intOf iv).toNat)
     case atStart=>exact⟨0,_,Nat.zero_le _,rfl,HD.out⟩
     case round=>
      obtain⟨i,vb,hi,rfl,F⟩:=hrel
      have bQ:Hid (DR w R r [(vu,un),(va,abF rd V),(vb,baN kt T bl i),(.slice none 0 0,[]),(.slice none 0 0,[])] wr):=F
      obtain⟨y0,y9,y1,y3,y7⟩:=HV.out wr F.bel
      by_cases aA:i<cnt
      ·have a6:(i:Int)<(cnt:Int):=by omega
       have bS:Hid _:=aW.out wr i F.bel aA
       clear F
       go_wp2_with fail
       refine Calls.mono bS.out ?_
       rintro e w1 ⟨rfl,a9⟩
       have A:=bQ.out.below a9
       have aD:Hid (DR w R r [(vu,un),(va,abF rd V),(vb,baN kt T bl i),(.slice none 0 0,[]),(.slice none 0 0,[])] w1):=A
       clear a9 bS y0 y9 y1 y3 y7
       cases hg:zAG kt T.L.C T.lv i (bl i) with
       |true=>
        have aH:Hid (baN kt T bl (i+1)=baN kt T bl i):=by show _=_;rw[baN,if_pos hg]
        clear A hg
        go_wp2_with fail
        go_roundw
        case rel=>exact⟨i+1,vb,by omega,by go_num,by rw[aH.out];exact aD.out⟩
        case measure=>simp[intOf];omega
       |false=>
        have aH:Hid (baN kt T bl (i+1)=baN kt T bl i++[i]):=by show _=_;rw[baN,if_neg (by rw[hg];simp)]
        have bK:=zHC kt T bl i
        obtain⟨v',w2,D,Q,u,⟨au,cu,rfl⟩,⟨J,N,rfl⟩⟩:=DR.one (l1:=[(vu,un),(va,abF rd V)]) i A (by omega)
        obtain⟨la,Z⟩:∃x,(baN kt T bl i).length=x:=⟨_,rfl⟩
        have p0:w1.cell? ⟨r,2,none⟩=some (.slice au (baN kt T bl i).length cu):=cell_of_row _ _ _ _ 133 _ A.rl.row
        have q0:w2.cell? ⟨r,2,none⟩=some (.slice au (baN kt T bl i).length cu):=cell_of_row _ _ _ _ 133 _ u
        have q9:w2.frozen? ⟨r,2,none⟩=false:=frozen_of_row _ _ _ _ 133 u
        have HR:Hid _:=D
        have G:Hid (DR w R r [(vu,un),(va,abF rd V),(.slice J ((baN kt T bl i).length+1) N,baN kt T bl (i+1)),(.slice none 0 0,[]),(.slice none 0 0,[])] (w2.setCell ⟨r,2,none⟩ (.slice J ((baN kt T bl i).length+1) N))):=by rw[aH.out];exact Q
        rw[Z]at p0 q0 HR G
        clear A Q D u hg bK Z
        go_wp2_with (at_builtin;refine zJ rfl (.tmp 104) (.tmp 106) 23 rfl _ _ _ (by simp[Act.eval]) (by simp[Act.eval]) _ HR.out ?_)
        go_roundw
        case rel=>exact⟨i+1,_,by omega,by go_num,G.out⟩
        case measure=>simp[intOf];omega
      ·obtain rfl:cnt=i:=by omega
       have a6:¬(cnt:Int)<(cnt:Int):=by omega
       clear F
       go_wp2_with fail
       clear y0 y9 y1 y3 y7
       go_loopw [11,12,13] (fun iv _ _ wr=>∃(s:Nat) (vs vf:Value),s≤ns∧iv=.int .i64 s∧DR w R r [(vu,un),(va,abF rd V),(vb,baN kt T bl cnt),(vs,fsF kt T bl 1 s),(vf,fsF kt T bl 2 s)] wr) (fun iv _ _ _=>ns-(intOf iv).toNat)
       case atStart=>exact⟨0,_,_,Nat.zero_le _,rfl,bQ.out⟩
       case round=>
        obtain⟨s,vs,vf,hi,rfl,F⟩:=hrel
        have dE:Hid _:=F
        have bU:Hid _:=bD.out wr F.bel
        clear F
        go_wp2_with fail
        refine Calls.mono bU.out ?_
        rintro e w1 ⟨rfl,a9⟩
        have A:=DR.below dE.out a9
        have aD:Hid _:=A
        clear a9 bU
        by_cases aA:s<ns
        ·have a6:(s:Int)<(ns:Int):=by omega
         have bV:Hid _:=bE.out w1 s A.bel aA
         clear A
         go_wp2_with fail
         refine Calls.mono bV.out ?_
         rintro e w3 ⟨ov,rfl,cK,_⟩
         have a8:=DR.below aD.out cK
         have fQ:Hid _:=a8
         clear cK bV
         obtain⟨fa,aO⟩:∃x,stF kt T bl s=x:=⟨_,rfl⟩
         rw[aO]
         have bF:=zA8 kt T bl 1 s
         have bG:=zA8 kt T bl 2 s
         by_cases f1:fa=1
         ·subst f1
          have aG:Hid (fsF kt T bl 1 (s+1)=fsF kt T bl 1 s++[s]∧fsF kt T bl 2 (s+1)=fsF kt T bl 2 s):=⟨by rw[fsF,if_pos aO],by rw[fsF,if_neg (by omega)]⟩
          obtain⟨v',w2,D,Q,u,⟨au,cu,rfl⟩,⟨J,N,rfl⟩⟩:=DR.one (l1:=[(vu,un),(va,abF rd V),(vb,baN kt T bl cnt)]) s a8 (by omega)
          obtain⟨la,Z⟩:∃x,(fsF kt T bl 1 s).length=x:=⟨_,rfl⟩
          have p0:w3.cell? ⟨r,3,none⟩=some (.slice au (fsF kt T bl 1 s).length cu):=cell_of_row _ _ _ _ 133 _ a8.rl.row
          have q0:w2.cell? ⟨r,3,none⟩=some (.slice au (fsF kt T bl 1 s).length cu):=cell_of_row _ _ _ _ 133 _ u
          have q9:w2.frozen? ⟨r,3,none⟩=false:=frozen_of_row _ _ _ _ 133 u
          have HR:Hid _:=D
          have G:Hid (DR w R r [(vu,un),(va,abF rd V),(vb,baN kt T bl cnt),(.slice J ((fsF kt T bl 1 s).length+1) N,fsF kt T bl 1 (s+1)),(vf,fsF kt T bl 2 (s+1))] (w2.setCell ⟨r,3,none⟩ (.slice J ((fsF kt T bl 1 s).length+1) N))):=by rw[aG.out.1,aG.out.2];exact Q
          rw[Z]at p0 q0 HR G
          clear a8 Q D u Z aO bF bG aG
          go_wp2_with (at_builtin;refine zJ rfl (.tmp 124) (.tmp 126) 23 rfl _ _ _ (by simp[Act.eval]) (by simp[Act.eval]) _ HR.out ?_)
          go_roundw
          case rel=>exact⟨s+1,_,_,by omega,by go_num,G.out⟩
          case measure=>simp[intOf];omega
         ·by_cases f2:fa=2
          ·subst f2
           have aG:Hid (fsF kt T bl 2 (s+1)=fsF kt T bl 2 s++[s]∧fsF kt T bl 1 (s+1)=fsF kt T bl 1 s):=⟨by rw[fsF,if_pos aO],by rw[fsF,if_neg (by omega)]⟩
           obtain⟨v',w2,D,Q,u,⟨au,cu,rfl⟩,⟨J,N,rfl⟩⟩:=DR.one (l1:=[(vu,un),(va,abF rd V),(vb,baN kt T bl cnt),(vs,fsF kt T bl 1 s)]) s a8 (by omega)
           obtain⟨la,Z⟩:∃x,(fsF kt T bl 2 s).length=x:=⟨_,rfl⟩
           have p0:w3.cell? ⟨r,4,none⟩=some (.slice au (fsF kt T bl 2 s).length cu):=cell_of_row _ _ _ _ 133 _ a8.rl.row
           have q0:w2.cell? ⟨r,4,none⟩=some (.slice au (fsF kt T bl 2 s).length cu):=cell_of_row _ _ _ _ 133 _ u
           have q9:w2.frozen? ⟨r,4,none⟩=false:=frozen_of_row _ _ _ _ 133 u
           have HR:Hid _:=D
           have G:Hid (DR w R r [(vu,un),(va,abF rd V),(vb,baN kt T bl cnt),(vs,fsF kt T bl 1 (s+1)),(.slice J ((fsF kt T bl 2 s).length+1) N,fsF kt T bl 2 (s+1))] (w2.setCell ⟨r,4,none⟩ (.slice J ((fsF kt T bl 2 s).length+1) N))):=by rw[aG.out.1,aG.out.2];exact Q
           rw[Z]at p0 q0 HR G
           clear a8 Q D u Z aO bF bG aG f1
           go_wp2_with (at_builtin;refine zJ rfl (.tmp 132) (.tmp 134) 23 rfl _ _ _ (by simp[Act.eval]) (by simp[Act.eval]) _ HR.out ?_)
           go_roundw
           case rel=>exact⟨s+1,_,_,by omega,by go_num,G.out⟩
           case measure=>simp[intOf];omega
          ·have g1:((fa:Int) == 1)=false:=by simp;omega
           have g2:((fa:Int) == 2)=false:=by simp;omega
           have dD:Hid (DR w R r [(vu,un),(va,abF rd V),(vb,baN kt T bl cnt),(vs,fsF kt T bl 1 (s+1)),(vf,fsF kt T bl 2 (s+1))] w3):=by
            show DR _ _ _ _ _
            rw[fsF,if_neg (by omega),fsF,if_neg (by omega)]
            exact a8
           clear a8 aO bF bG f1 f2
           go_wp2_with fail
           go_roundw
           case rel=>exact⟨s+1,_,_,by omega,by go_num,dD.out⟩
           case measure=>simp[intOf];omega
        ·obtain rfl:ns=s:=by omega
         have a6:¬(ns:Int)<(ns:Int):=by omega
         have hR:=A.rl
         obtain⟨a1,k1,e1⟩:=zA (hR.own (vu,un) (by simp))
         obtain⟨a2,k2,e2⟩:=zA (hR.own (va,abF rd V) (by simp))
         obtain⟨a3,k3,e3⟩:=zA (hR.own (vb,baN kt T bl cnt) (by simp))
         obtain⟨a4,k4,e4⟩:=zA (hR.own (vs,fsF kt T bl 1 ns) (by simp))
         obtain⟨a5,k5,e5⟩:=zA (hR.own (vf,fsF kt T bl 2 ns) (by simp))
         simp only[]at e1 e2 e3 e4 e5
         subst e1 e2 e3 e4 e5
         obtain⟨n1,l1⟩:∃x,un.length=x:=⟨_,rfl⟩
         obtain⟨n2,l2⟩:∃x,(abF rd V).length=x:=⟨_,rfl⟩
         obtain⟨n3,l3⟩:∃x,(baN kt T bl cnt).length=x:=⟨_,rfl⟩
         obtain⟨n4,l4⟩:∃x,(fsF kt T bl 1 ns).length=x:=⟨_,rfl⟩
         obtain⟨n5,l5⟩:∃x,(fsF kt T bl 2 ns).length=x:=⟨_,rfl⟩
         rw[l1,l2,l3,l4,l5]at A aD
         have c0:w1.cell? ⟨r,0,none⟩=some (.slice a1 n1 k1):=cell_of_row _ _ _ _ 133 _ A.rl.row
         have c1:w1.cell? ⟨r,1,none⟩=some (.slice a2 n2 k2):=cell_of_row _ _ _ _ 133 _ A.rl.row
         have c2:w1.cell? ⟨r,2,none⟩=some (.slice a3 n3 k3):=cell_of_row _ _ _ _ 133 _ A.rl.row
         have c3:w1.cell? ⟨r,3,none⟩=some (.slice a4 n4 k4):=cell_of_row _ _ _ _ 133 _ A.rl.row
         have c4:w1.cell? ⟨r,4,none⟩=some (.slice a5 n5 k5):=cell_of_row _ _ _ _ 133 _ A.rl.row
         have o0:w1.cell? ⟨R,0,none⟩=some (.slice none 0 0):=cell_of_row _ _ _ _ 133 _ A.r0R
         have o1:w1.cell? ⟨R,1,none⟩=some (.slice none 0 0):=cell_of_row _ _ _ _ 133 _ A.r0R
         have o2:w1.cell? ⟨R,2,none⟩=some (.slice none 0 0):=cell_of_row _ _ _ _ 133 _ A.r0R
         have o3:w1.cell? ⟨R,3,none⟩=some (.slice none 0 0):=cell_of_row _ _ _ _ 133 _ A.r0R
         have o4:w1.cell? ⟨R,4,none⟩=some (.slice none 0 0):=cell_of_row _ _ _ _ 133 _ A.r0R
         have fz:∀j,w1.frozen? ⟨R,j,none⟩=false:=fun j=>frozen_of_row _ _ _ _ 133 A.r0R
         have U:Hid (DR w R r [(.slice a1 n1 k1,un),(.slice a2 n2 k2,abF rd V),(.slice a3 n3 k3,baN kt T bl cnt),(.slice a4 n4 k4,fsF kt T bl 1 ns),(.slice a5 n5 k5,fsF kt T bl 2 ns)] w1):=A
         have fS:Hid _:=And.intro l1 (And.intro l2 (And.intro l3 (And.intro l4 l5)))
         clear A hR l1 l2 l3 l4 l5 aD
         go_wp2_with fail
         obtain⟨dN,f0,k0⟩:=zOC U.out.r0R U.out.lo.1 U.out.bel 0 (.slice a1 n1 k1)
         obtain⟨dO,f1,f5⟩:=zOC dN U.out.lo.1 f0 1 (.slice a2 n2 k2)
         obtain⟨dP,f2,f6⟩:=zOC dO U.out.lo.1 f1 2 (.slice a3 n3 k3)
         obtain⟨dQ,f3,f7⟩:=zOC dP U.out.lo.1 f2 3 (.slice a4 n4 k4)
         obtain⟨dR,f4,f8⟩:=zOC dQ U.out.lo.1 f3 4 (.slice a5 n5 k5)
         have hk:=fun (j:Nat) (c:Array Value) (t:TypeId) (ht:t≠133) hj=>f8 j c t ht (f7 j c t ht (f6 j c t ht (f5 j c t ht (k0 j c t ht hj))))
         refine bodyPost_ret (v:=.agg (zAc (.slice a1 n1 k1) (.slice a2 n2 k2) (.slice a3 n3 k3) (.slice a4 n4 k4) (.slice a5 n5 k5))) ?_ rfl ?_
         ·exact results_cell_row Tryz.results62 _ _ R 133 _ (0,0) _ rfl dR Tryz.underlying133 rfl (by kernel_rfl)
         ·refine⟨_,_,_,_,_,rfl,f4,?_⟩
          rw[dK.out,dH.out,←dB.out]
          exact⟨zp (U.out.rl.own (.slice a1 n1 k1,un) (by simp)) hk,zp (U.out.rl.own (.slice a2 n2 k2,abF rd V) (by simp)) hk,zp (U.out.rl.own (.slice a3 n3 k3,baN kt T bl cnt) (by simp)) hk,zp (U.out.rl.own (.slice a4 n4 k4,fsF kt T bl 1 ns) (by simp)) hk,zp (U.out.rl.own (.slice a5 n5 k5,fsF kt T bl 2 ns) (by simp)) hk⟩
end Go.Proofs.YtlopecgkiikdhaaGreatDoor
