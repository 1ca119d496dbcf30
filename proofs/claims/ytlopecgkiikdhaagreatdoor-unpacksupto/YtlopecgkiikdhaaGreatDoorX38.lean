import Derived.Test.YtlopecgkiikdhaaGreatDoorX35
import Derived.Test.YtlopecgkiikdhaaGreatDoorX36
import Derived.Test.YtlopecgkiikdhaaGreatDoorX37
namespace Go.Proofs.YtlopecgkiikdhaaGreatDoor
open Go.RowKit
set_option maxRecDepth 100000
set_option maxHeartbeats 4000000
theorem zBu (v:Value)(m:ByteArray)(w:World)(h:FulG w 9 1 (mk1 (.string m)) v):
 Calls Tryz.prog 37 #[v,.string m] w fun e w'=>e=.returned (.bool true)∧Below w.heap.size w w':=by
 obtain⟨a,n,c,rfl,W,h⟩:=h
 have Q:Hid (∀i,i<n→∃g,a=some ⟨g,0,none⟩∧w.cell? ⟨g,i,none⟩=some (.string m)):=by
  intro i hi
  rcases h with U|⟨g,cur,F,R,A⟩
  ·omega
  ·refine⟨g,F,?_⟩
   rw[cell_of_row _ _ _ _ 9 _ R]
   have:=A i hi 0 (by omega)
   simpa[mk1] using this
 clear h
 go_enter Tryz.func37,Tryz.ntmps37
 go_wp2_with fail
 go_loopw [5] (fun J wr=>∃i q:Nat,i≤n∧J=.int .i64 i∧wr=w.drewN q) (fun J _=>n-(intOf J).toNat)
 case atStart=>exact⟨0,0,by omega,rfl,rfl⟩
 case round=>
  obtain⟨i,q,hi,rfl,u⟩:=hrel
  by_cases G:i<n
  ·obtain⟨g,F,A⟩:=Q.out i G
   subst F
   have c1:wr.cell? ⟨g,i,none⟩=some (.string m):=by rw[u];exact A
   have D:Hid _:=u
   clear u A
   have N:(0:Int)≤(i:Int):=by omega
   have j:(i:Int)<(n:Int):=by omega
   go_wp2_with fail
   go_roundw
   case rel=>exact⟨i+1,q,by omega,by go_num,D.out⟩
   case measure=>simp[intOf];omega
  ·have j:¬(i:Int)<(n:Int):=by omega
   have D:Hid _:=u
   clear u
   go_wp2_with fail
   go_ret
   exact⟨rfl,by rw[D.out];exact below_drewN (Below.refl _ _) q⟩
theorem zBs (v:Value)(m:Int)(w:World)(h:FulG w 3 1 (mk1 (.int .i64 m)) v):
 Calls Tryz.prog 38 #[v,.int .i64 m] w fun e w'=>e=.returned (.bool true)∧Below w.heap.size w w':=by
 obtain⟨a,n,c,rfl,W,h⟩:=h
 have Q:Hid (∀i,i<n→∃g,a=some ⟨g,0,none⟩∧w.cell? ⟨g,i,none⟩=some (.int .i64 m)):=by
  intro i hi
  rcases h with U|⟨g,cur,F,R,A⟩
  ·omega
  ·refine⟨g,F,?_⟩
   rw[cell_of_row _ _ _ _ 3 _ R]
   have:=A i hi 0 (by omega)
   simpa[mk1] using this
 clear h
 go_enter Tryz.func38,Tryz.ntmps38
 go_wp2_with fail
 go_loopw [5] (fun J wr=>∃i q:Nat,i≤n∧J=.int .i64 i∧wr=w.drewN q) (fun J _=>n-(intOf J).toNat)
 case atStart=>exact⟨0,0,by omega,rfl,rfl⟩
 case round=>
  obtain⟨i,q,hi,rfl,u⟩:=hrel
  by_cases G:i<n
  ·obtain⟨g,F,A⟩:=Q.out i G
   subst F
   have c1:wr.cell? ⟨g,i,none⟩=some (.int .i64 m):=by rw[u];exact A
   have D:Hid _:=u
   clear u A
   have N:(0:Int)≤(i:Int):=by omega
   have j:(i:Int)<(n:Int):=by omega
   go_wp2_with fail
   go_roundw
   case rel=>exact⟨i+1,q,by omega,by go_num,D.out⟩
   case measure=>simp[intOf];omega
  ·have j:¬(i:Int)<(n:Int):=by omega
   have D:Hid _:=u
   clear u
   go_wp2_with fail
   go_ret
   exact⟨rfl,by rw[D.out];exact below_drewN (Below.refl _ _) q⟩
theorem zBt (v:Value)(m:ByteArray)(w:World)(h:FulG w 149 2 (mkO (.string m)) v):
 Calls Tryz.prog 39 #[v,.string m] w fun e w'=>e=.returned (.bool true)∧Below w.heap.size w w':=by
 obtain⟨a,n,c,rfl,W,h⟩:=h
 have R:Hid (∀i,i<n→∃g,a=some ⟨g,0,none⟩∧w.cell? ⟨g,i*2,none⟩=some (.string m)∧w.cell? ⟨g,i*2+1,none⟩=some (.string m)):=by
  intro i hi
  rcases h with U|⟨g,cur,F,N,u⟩
  ·omega
  ·refine⟨g,F,?_,?_⟩
   ·rw[cell_of_row _ _ _ _ 149 _ N]
    exact u i hi 0 (by omega)
   ·rw[cell_of_row _ _ _ _ 149 _ N]
    exact u i hi 1 (by omega)
 clear h
 go_enter Tryz.func39,Tryz.ntmps39
 go_wp2_with fail
 go_loopw [5] (fun J wr=>∃i q:Nat,i≤n∧J=.int .i64 i∧wr=w.drewN q) (fun J _=>n-(intOf J).toNat)
 case atStart=>exact⟨0,0,by omega,rfl,rfl⟩
 case round=>
  obtain⟨i,q,hi,rfl,j⟩:=hrel
  by_cases G:i<n
  ·obtain⟨g,F,u,hd⟩:=R.out i G
   subst F
   have c1:wr.cell? ⟨g,i*2,none⟩=some (.string m):=by rw[j];exact u
   have c2:wr.cell? ⟨g,i*2+1,none⟩=some (.string m):=by rw[j];exact hd
   clear hd
   have D:Hid _:=j
   clear j u
   have Q:(0:Int)≤(i:Int):=by omega
   have A:(i:Int)<(n:Int):=by omega
   go_wp2_with fail
   go_roundw
   case rel=>exact⟨i+1,q,by omega,by go_num,D.out⟩
   case measure=>simp[intOf];omega
  ·have A:¬(i:Int)<(n:Int):=by omega
   have D:Hid _:=j
   clear j
   go_wp2_with fail
   go_ret
   exact⟨rfl,by rw[D.out];exact below_drewN (Below.refl _ _) q⟩
theorem zBr (v:Value)(m:ByteArray)(w:World)(h:FulG w 131 2 (mkE (.string m)) v):
 Calls Tryz.prog 40 #[v,.string m] w fun e w'=>e=.returned (.bool true)∧Below w.heap.size w w':=by
 obtain⟨a,n,c,rfl,W,h⟩:=h
 have R:Hid (∀i,i<n→∃g,a=some ⟨g,0,none⟩∧w.cell? ⟨g,i*2,none⟩=some (.string m)∧w.cell? ⟨g,i*2+1,none⟩=some (.int .i64 0)):=by
  intro i hi
  rcases h with U|⟨g,cur,F,N,u⟩
  ·omega
  ·refine⟨g,F,?_,?_⟩
   ·rw[cell_of_row _ _ _ _ 131 _ N]
    exact u i hi 0 (by omega)
   ·rw[cell_of_row _ _ _ _ 131 _ N]
    exact u i hi 1 (by omega)
 clear h
 go_enter Tryz.func40,Tryz.ntmps40
 go_wp2_with fail
 go_loopw [5] (fun J wr=>∃i q:Nat,i≤n∧J=.int .i64 i∧wr=w.drewN q) (fun J _=>n-(intOf J).toNat)
 case atStart=>exact⟨0,0,by omega,rfl,rfl⟩
 case round=>
  obtain⟨i,q,hi,rfl,j⟩:=hrel
  by_cases G:i<n
  ·obtain⟨g,F,u,hd⟩:=R.out i G
   subst F
   have c1:wr.cell? ⟨g,i*2,none⟩=some (.string m):=by rw[j];exact u
   have c2:wr.cell? ⟨g,i*2+1,none⟩=some (.int .i64 0):=by rw[j];exact hd
   clear hd
   have D:Hid _:=j
   clear j u
   have Q:(0:Int)≤(i:Int):=by omega
   have A:(i:Int)<(n:Int):=by omega
   go_wp2_with fail
   go_roundw
   case rel=>exact⟨i+1,q,by omega,by go_num,D.out⟩
   case measure=>simp[intOf];omega
  ·have A:¬(i:Int)<(n:Int):=by omega
   have D:Hid _:=j
   clear j
   go_wp2_with fail
   go_ret
   exact⟨rfl,by rw[D.out];exact below_drewN (Below.refl _ _) q⟩
theorem zNi (base B:Nat)(l0 lo:Value)(bk:Bk)(w:World)(H:BkI base B l0 lo bk w)(hT:bk.T.length≤100000000000)(hI:bk.I.length≤100000000000)(hO:bk.O.length≤100000000000)(hE:bk.E.length≤100000000000):
 Calls Tryz.prog 15 #[.pointer (some ⟨B,1,none⟩)] w fun e w'=>e=.returned (.bool true)∧Below w.heap.size w w':=by
 have HH:Hid (BkI base B l0 lo bk w):=H
 obtain⟨vT,vI,vO,vE,h1,h2,h3,h4,h5⟩:=H.row
 obtain⟨aT,cT,rfl⟩:=zA h2
 obtain⟨aI,cI,rfl⟩:=zA h3
 obtain⟨aO,cO,rfl⟩:=zA h4
 obtain⟨aE,cE,rfl⟩:=zA h5
 have H2:Hid _:=h2
 have H3:Hid _:=h3
 have H4:Hid _:=h4
 have H5:Hid _:=h5
 have cC:B<w.heap.size:=(Array.getElem?_eq_some_iff.1 h1).1
 have HC:Hid (∀X:World,Below w.heap.size w X→X.cell? ⟨B,2,none⟩=some (.slice aT bk.T.length cT)∧X.cell? ⟨B,3,none⟩=some (.slice aI bk.I.length cI)∧X.cell? ⟨B,4,none⟩=some (.slice aO bk.O.length cO)∧X.cell? ⟨B,5,none⟩=some (.slice aE bk.E.length cE)):=fun X hX=>by
  have e:=(hX.block B cC).trans h1
  exact⟨cell_of_row _ _ _ _ 33 _ e,cell_of_row _ _ _ _ 33 _ e,cell_of_row _ _ _ _ 33 _ e,cell_of_row _ _ _ _ 33 _ e⟩
 clear H h1 h2 h3 h4 h5
 go_enter Tryz.func15,Tryz.ntmps15
 go_wp2_with fail
 go_loopw [3] (fun iv wr=>∃i:Nat,i≤bk.T.length∧iv=.int .i64 i∧Below w.heap.size w wr) (fun iv _=>bk.T.length-(intOf iv).toNat)
 case atStart=>exact⟨0,Nat.zero_le _,rfl,Below.refl _ _⟩
 case round=>
  obtain⟨i,hi,rfl,hb⟩:=hrel
  have bH:Hid (Below w.heap.size w wr):=hb
  obtain⟨o2,o3,o4,o5⟩:=HC.out wr hb
  by_cases a1:i<bk.T.length
  ·obtain⟨g,ha,D,J⟩:=zBP H2.out i a1
   subst ha
   obtain⟨e,he⟩:∃e,bk.T[i]=e:=⟨_,rfl⟩
   obtain⟨aX,hm,_⟩:=(HH.out.low hb).T e (by rw[←he];exact List.getElem_mem a1)
   rw[he]at J
   obtain⟨el,ea,eb,ec,aS⟩:=e
   obtain⟨A,rfl⟩:∃s,aS=.string s:=hm
   obtain⟨f1,f2,f3,f4⟩:=aX
   have F1:Hid (FulG wr 9 1 (mk1 (.string A)) el):=f1
   have F2:Hid (FulG wr 9 1 (mk1 (.string A)) ea):=f2
   have F3:Hid (FulG wr 9 1 (mk1 (.string A)) eb):=f3
   have F4:Hid (FulG wr 9 1 (mk1 (.string A)) ec):=f4
   obtain⟨l1,l2,l3,hl,_⟩:=f1
   subst hl
   obtain⟨m1,m2,m3,hm,_⟩:=f2
   subst hm
   obtain⟨p1,p2,p3,hp,_⟩:=f3
   subst hp
   obtain⟨q1,q2,q3,hq,_⟩:=f4
   subst hq
   have c0:wr.cell? ⟨g,i*5,none⟩=some (.slice l1 l2 l3):=(hb.cell (p:=⟨g,i*5,none⟩) D).trans (J 0 (by omega))
   have c1:wr.cell? ⟨g,i*5+1,none⟩=some (.slice m1 m2 m3):=(hb.cell (p:=⟨g,i*5+1,none⟩) D).trans (J 1 (by omega))
   have c2:wr.cell? ⟨g,i*5+2,none⟩=some (.slice p1 p2 p3):=(hb.cell (p:=⟨g,i*5+2,none⟩) D).trans (J 2 (by omega))
   have c3:wr.cell? ⟨g,i*5+3,none⟩=some (.slice q1 q2 q3):=(hb.cell (p:=⟨g,i*5+3,none⟩) D).trans (J 3 (by omega))
   have c4:wr.cell? ⟨g,i*5+4,none⟩=some (.string A):=(hb.cell (p:=⟨g,i*5+4,none⟩) D).trans (J 4 (by omega))
   have bP:(0:Int)≤(i:Int):=by omega
   have aV:(i:Int)<(bk.T.length:Int):=by omega
   clear J hb he
   go_wp2_with fail
   obtain⟨j,N⟩:∃j,j=wr.alloc (Obj.cells #[Value.slice l1 l2 l3,Value.slice m1 m2 m3,Value.slice p1 p2 p3,Value.slice q1 q2 q3,.string A] 99):=⟨_,rfl⟩
   have u:j.heap[wr.heap.size]? =some (.cells #[Value.slice l1 l2 l3,Value.slice m1 m2 m3,Value.slice p1 p2 p3,Value.slice q1 q2 q3,.string A] 99 (0,0)):=by rw[N];exact heap_alloc_new _ _
   have F:Hid (Below wr.heap.size wr j):=by show Below wr.heap.size wr j;rw[N];exact (Below.refl _ _).alloc (Nat.le_refl _) _
   rw[←N]
   clear N c0 c1 c2 c3 c4 o2 o3 o4 o5
   obtain⟨x,hx⟩:∃x,x=wr.heap.size:=⟨_,rfl⟩
   have a4:x<j.heap.size:=by rw[hx];exact (Array.getElem?_eq_some_iff.1 u).1
   rw[←hx]at u ⊢
   have Q:Hid (∀X:World,Below j.heap.size j X→X.heap[x]? =some (.cells #[Value.slice l1 l2 l3,Value.slice m1 m2 m3,Value.slice p1 p2 p3,Value.slice q1 q2 q3,.string A] 99 (0,0))):=fun X hX=>(hX.block x a4).trans u
   have G:Hid (∀(X:World) (v:Value),Below j.heap.size j X→FulG wr 9 1 (mk1 (.string A)) v→FulG X 9 1 (mk1 (.string A)) v):=fun X v hX hv=>hv.kept (fun q cur _ J=>by
    have a2:=(Array.getElem?_eq_some_iff.1 J).1
    rw[hX.block q (Nat.lt_of_lt_of_le a2 F.out.size),F.out.block q a2])
   clear hx u a4
   refine (zBu _ _ _ (G.out j _ (Below.refl _ _) F1.out)).mono ?_
   rintro e' w2 ⟨rfl,y1⟩
   have r0:w2.cell? ⟨x,1,none⟩=some (.slice m1 m2 m3):=cell_of_row _ _ _ _ 99 _ (Q.out w2 y1)
   have r4:w2.cell? ⟨x,4,none⟩=some (.string A):=cell_of_row _ _ _ _ 99 _ (Q.out w2 y1)
   have Y0:Hid _:=y1
   clear y1
   go_wp2_with fail
   refine (zBu _ _ _ (G.out w2 _ Y0.out F2.out)).mono ?_
   rintro e' R ⟨rfl,z0⟩
   have y2:Below j.heap.size j R:=Y0.out.trans (z0.mono Y0.out.size)
   clear r0 r4 z0
   have r0:R.cell? ⟨x,2,none⟩=some (.slice p1 p2 p3):=cell_of_row _ _ _ _ 99 _ (Q.out R y2)
   have r4:R.cell? ⟨x,4,none⟩=some (.string A):=cell_of_row _ _ _ _ 99 _ (Q.out R y2)
   have Y1:Hid _:=y2
   clear y2
   go_wp2_with fail
   refine (zBu _ _ _ (G.out R _ Y1.out F3.out)).mono ?_
   rintro e' U ⟨rfl,z1⟩
   have y3:Below j.heap.size j U:=Y1.out.trans (z1.mono Y1.out.size)
   clear r0 r4 z1
   have r0:U.cell? ⟨x,3,none⟩=some (.slice q1 q2 q3):=cell_of_row _ _ _ _ 99 _ (Q.out U y3)
   have r4:U.cell? ⟨x,4,none⟩=some (.string A):=cell_of_row _ _ _ _ 99 _ (Q.out U y3)
   have Y2:Hid _:=y3
   clear y3
   go_wp2_with fail
   refine (zBu _ _ _ (G.out U _ Y2.out F4.out)).mono ?_
   rintro e' w5 ⟨rfl,z2⟩
   have y4:Below j.heap.size j w5:=Y2.out.trans (z2.mono Y2.out.size)
   clear r0 r4 z2
   have W:Below w.heap.size w w5:=bH.out.trans ((F.out.trans (y4.mono F.out.size)).mono bH.out.size)
   have aM:Hid _:=W
   clear y4 W
   go_wp2_with fail
   go_roundw
   case rel=>exact⟨i+1,by omega,by go_num,aM.out⟩
   case measure=>simp[intOf];omega
  ·have aV:¬(i:Int)<(bk.T.length:Int):=by omega
   clear hb
   go_wp2_with fail
   go_loopw [5] (fun iv wr=>∃i:Nat,i≤bk.I.length∧iv=.int .i64 i∧Below w.heap.size w wr) (fun iv _=>bk.I.length-(intOf iv).toNat)
   case atStart=>exact⟨0,Nat.zero_le _,rfl,bH.out⟩
   case round=>
    obtain⟨i,hi,rfl,hb⟩:=hrel
    have bF:Hid (Below w.heap.size w wr):=hb
    obtain⟨o2,o3,o4,o5⟩:=HC.out wr hb
    by_cases a1:i<bk.I.length
    ·obtain⟨g,ha,D,J⟩:=zBP H3.out i a1
     subst ha
     obtain⟨e,he⟩:∃e,bk.I[i]=e:=⟨_,rfl⟩
     obtain⟨aX,hm,_⟩:=(HH.out.low hb).I e (by rw[←he];exact List.getElem_mem a1)
     rw[he]at J
     obtain⟨el,ea,eb,ec,aS⟩:=e
     obtain⟨A,rfl⟩:∃s,aS=.int .i64 s:=hm
     obtain⟨f1,f2,f3,f4⟩:=aX
     have F1:Hid (FulG wr 3 1 (mk1 (.int .i64 A)) el):=f1
     have F2:Hid (FulG wr 3 1 (mk1 (.int .i64 A)) ea):=f2
     have F3:Hid (FulG wr 3 1 (mk1 (.int .i64 A)) eb):=f3
     have F4:Hid (FulG wr 3 1 (mk1 (.int .i64 A)) ec):=f4
     obtain⟨l1,l2,l3,hl,_⟩:=f1
     subst hl
     obtain⟨m1,m2,m3,hm,_⟩:=f2
     subst hm
     obtain⟨p1,p2,p3,hp,_⟩:=f3
     subst hp
     obtain⟨q1,q2,q3,hq,_⟩:=f4
     subst hq
     have c0:wr.cell? ⟨g,i*5,none⟩=some (.slice l1 l2 l3):=(hb.cell (p:=⟨g,i*5,none⟩) D).trans (J 0 (by omega))
     have c1:wr.cell? ⟨g,i*5+1,none⟩=some (.slice m1 m2 m3):=(hb.cell (p:=⟨g,i*5+1,none⟩) D).trans (J 1 (by omega))
     have c2:wr.cell? ⟨g,i*5+2,none⟩=some (.slice p1 p2 p3):=(hb.cell (p:=⟨g,i*5+2,none⟩) D).trans (J 2 (by omega))
     have c3:wr.cell? ⟨g,i*5+3,none⟩=some (.slice q1 q2 q3):=(hb.cell (p:=⟨g,i*5+3,none⟩) D).trans (J 3 (by omega))
     have c4:wr.cell? ⟨g,i*5+4,none⟩=some (.int .i64 A):=(hb.cell (p:=⟨g,i*5+4,none⟩) D).trans (J 4 (by omega))
     have bP:(0:Int)≤(i:Int):=by omega
     have aV:(i:Int)<(bk.I.length:Int):=by omega
     clear J hb he
     go_wp2_with fail
     obtain⟨j,N⟩:∃j,j=wr.alloc (Obj.cells #[Value.slice l1 l2 l3,Value.slice m1 m2 m3,Value.slice p1 p2 p3,Value.slice q1 q2 q3,.int .i64 A] 101):=⟨_,rfl⟩
     have u:j.heap[wr.heap.size]? =some (.cells #[Value.slice l1 l2 l3,Value.slice m1 m2 m3,Value.slice p1 p2 p3,Value.slice q1 q2 q3,.int .i64 A] 101 (0,0)):=by rw[N];exact heap_alloc_new _ _
     have F:Hid (Below wr.heap.size wr j):=by show Below wr.heap.size wr j;rw[N];exact (Below.refl _ _).alloc (Nat.le_refl _) _
     rw[←N]
     clear N c0 c1 c2 c3 c4 o2 o3 o4 o5
     obtain⟨x,hx⟩:∃x,x=wr.heap.size:=⟨_,rfl⟩
     have a4:x<j.heap.size:=by rw[hx];exact (Array.getElem?_eq_some_iff.1 u).1
     rw[←hx]at u ⊢
     have Q:Hid (∀X:World,Below j.heap.size j X→X.heap[x]? =some (.cells #[Value.slice l1 l2 l3,Value.slice m1 m2 m3,Value.slice p1 p2 p3,Value.slice q1 q2 q3,.int .i64 A] 101 (0,0))):=fun X hX=>(hX.block x a4).trans u
     have G:Hid (∀(X:World) (v:Value),Below j.heap.size j X→FulG wr 3 1 (mk1 (.int .i64 A)) v→FulG X 3 1 (mk1 (.int .i64 A)) v):=fun X v hX hv=>hv.kept (fun q cur _ J=>by
      have a2:=(Array.getElem?_eq_some_iff.1 J).1
      rw[hX.block q (Nat.lt_of_lt_of_le a2 F.out.size),F.out.block q a2])
     clear hx u a4
     refine (zBs _ _ _ (G.out j _ (Below.refl _ _) F1.out)).mono ?_
     rintro e' w2 ⟨rfl,y1⟩
     have r0:w2.cell? ⟨x,1,none⟩=some (.slice m1 m2 m3):=cell_of_row _ _ _ _ 101 _ (Q.out w2 y1)
     have r4:w2.cell? ⟨x,4,none⟩=some (.int .i64 A):=cell_of_row _ _ _ _ 101 _ (Q.out w2 y1)
     have Y0:Hid _:=y1
     clear y1
     go_wp2_with fail
     refine (zBs _ _ _ (G.out w2 _ Y0.out F2.out)).mono ?_
     rintro e' R ⟨rfl,z0⟩
     have y2:Below j.heap.size j R:=Y0.out.trans (z0.mono Y0.out.size)
     clear r0 r4 z0
     have r0:R.cell? ⟨x,2,none⟩=some (.slice p1 p2 p3):=cell_of_row _ _ _ _ 101 _ (Q.out R y2)
     have r4:R.cell? ⟨x,4,none⟩=some (.int .i64 A):=cell_of_row _ _ _ _ 101 _ (Q.out R y2)
     have Y1:Hid _:=y2
     clear y2
     go_wp2_with fail
     refine (zBs _ _ _ (G.out R _ Y1.out F3.out)).mono ?_
     rintro e' U ⟨rfl,z1⟩
     have y3:Below j.heap.size j U:=Y1.out.trans (z1.mono Y1.out.size)
     clear r0 r4 z1
     have r0:U.cell? ⟨x,3,none⟩=some (.slice q1 q2 q3):=cell_of_row _ _ _ _ 101 _ (Q.out U y3)
     have r4:U.cell? ⟨x,4,none⟩=some (.int .i64 A):=cell_of_row _ _ _ _ 101 _ (Q.out U y3)
     have Y2:Hid _:=y3
     clear y3
     go_wp2_with fail
     refine (zBs _ _ _ (G.out U _ Y2.out F4.out)).mono ?_
     rintro e' w5 ⟨rfl,z2⟩
     have y4:Below j.heap.size j w5:=Y2.out.trans (z2.mono Y2.out.size)
     clear r0 r4 z2
     have W:Below w.heap.size w w5:=bF.out.trans ((F.out.trans (y4.mono F.out.size)).mono bF.out.size)
     have aM:Hid _:=W
     clear y4 W
     go_wp2_with fail
     go_roundw
     case rel=>exact⟨i+1,by omega,by go_num,aM.out⟩
     case measure=>simp[intOf];omega
    ·have aV:¬(i:Int)<(bk.I.length:Int):=by omega
     clear hb
     go_wp2_with fail
     go_loopw [7] (fun iv wr=>∃i:Nat,i≤bk.O.length∧iv=.int .i64 i∧Below w.heap.size w wr) (fun iv _=>bk.O.length-(intOf iv).toNat)
     case atStart=>exact⟨0,Nat.zero_le _,rfl,bF.out⟩
     case round=>
      obtain⟨i,hi,rfl,hb⟩:=hrel
      have bG:Hid (Below w.heap.size w wr):=hb
      obtain⟨o2,o3,o4,o5⟩:=HC.out wr hb
      by_cases a1:i<bk.O.length
      ·obtain⟨g,ha,D,J⟩:=zBP H4.out i a1
       subst ha
       obtain⟨e,he⟩:∃e,bk.O[i]=e:=⟨_,rfl⟩
       obtain⟨aX,hm,_⟩:=(HH.out.low hb).O e (by rw[←he];exact List.getElem_mem a1)
       rw[he]at J
       obtain⟨el,ea,eb,ec,aS⟩:=e
       obtain⟨A,rfl⟩:∃s,aS=.string s:=hm
       obtain⟨f1,f2,f3,f4⟩:=aX
       have F1:Hid (FulG wr 149 2 (mkO (.string A)) el):=f1
       have F2:Hid (FulG wr 149 2 (mkO (.string A)) ea):=f2
       have F3:Hid (FulG wr 149 2 (mkO (.string A)) eb):=f3
       have F4:Hid (FulG wr 149 2 (mkO (.string A)) ec):=f4
       obtain⟨l1,l2,l3,hl,_⟩:=f1
       subst hl
       obtain⟨m1,m2,m3,hm,_⟩:=f2
       subst hm
       obtain⟨p1,p2,p3,hp,_⟩:=f3
       subst hp
       obtain⟨q1,q2,q3,hq,_⟩:=f4
       subst hq
       have c0:wr.cell? ⟨g,i*5,none⟩=some (.slice l1 l2 l3):=(hb.cell (p:=⟨g,i*5,none⟩) D).trans (J 0 (by omega))
       have c1:wr.cell? ⟨g,i*5+1,none⟩=some (.slice m1 m2 m3):=(hb.cell (p:=⟨g,i*5+1,none⟩) D).trans (J 1 (by omega))
       have c2:wr.cell? ⟨g,i*5+2,none⟩=some (.slice p1 p2 p3):=(hb.cell (p:=⟨g,i*5+2,none⟩) D).trans (J 2 (by omega))
       have c3:wr.cell? ⟨g,i*5+3,none⟩=some (.slice q1 q2 q3):=(hb.cell (p:=⟨g,i*5+3,none⟩) D).trans (J 3 (by omega))
       have c4:wr.cell? ⟨g,i*5+4,none⟩=some (.string A):=(hb.cell (p:=⟨g,i*5+4,none⟩) D).trans (J 4 (by omega))
       have bP:(0:Int)≤(i:Int):=by omega
       have aV:(i:Int)<(bk.O.length:Int):=by omega
       clear J hb he
       go_wp2_with fail
       obtain⟨j,N⟩:∃j,j=wr.alloc (Obj.cells #[Value.slice l1 l2 l3,Value.slice m1 m2 m3,Value.slice p1 p2 p3,Value.slice q1 q2 q3,.string A] 104):=⟨_,rfl⟩
       have u:j.heap[wr.heap.size]? =some (.cells #[Value.slice l1 l2 l3,Value.slice m1 m2 m3,Value.slice p1 p2 p3,Value.slice q1 q2 q3,.string A] 104 (0,0)):=by rw[N];exact heap_alloc_new _ _
       have F:Hid (Below wr.heap.size wr j):=by show Below wr.heap.size wr j;rw[N];exact (Below.refl _ _).alloc (Nat.le_refl _) _
       rw[←N]
       clear N c0 c1 c2 c3 c4 o2 o3 o4 o5
       obtain⟨x,hx⟩:∃x,x=wr.heap.size:=⟨_,rfl⟩
       have a4:x<j.heap.size:=by rw[hx];exact (Array.getElem?_eq_some_iff.1 u).1
       rw[←hx]at u ⊢
       have Q:Hid (∀X:World,Below j.heap.size j X→X.heap[x]? =some (.cells #[Value.slice l1 l2 l3,Value.slice m1 m2 m3,Value.slice p1 p2 p3,Value.slice q1 q2 q3,.string A] 104 (0,0))):=fun X hX=>(hX.block x a4).trans u
       have G:Hid (∀(X:World) (v:Value),Below j.heap.size j X→FulG wr 149 2 (mkO (.string A)) v→FulG X 149 2 (mkO (.string A)) v):=fun X v hX hv=>hv.kept (fun q cur _ J=>by
        have a2:=(Array.getElem?_eq_some_iff.1 J).1
        rw[hX.block q (Nat.lt_of_lt_of_le a2 F.out.size),F.out.block q a2])
       clear hx u a4
       refine (zBt _ _ _ (G.out j _ (Below.refl _ _) F1.out)).mono ?_
       rintro e' w2 ⟨rfl,y1⟩
       have r0:w2.cell? ⟨x,1,none⟩=some (.slice m1 m2 m3):=cell_of_row _ _ _ _ 104 _ (Q.out w2 y1)
       have r4:w2.cell? ⟨x,4,none⟩=some (.string A):=cell_of_row _ _ _ _ 104 _ (Q.out w2 y1)
       have Y0:Hid _:=y1
       clear y1
       go_wp2_with fail
       refine (zBt _ _ _ (G.out w2 _ Y0.out F2.out)).mono ?_
       rintro e' R ⟨rfl,z0⟩
       have y2:Below j.heap.size j R:=Y0.out.trans (z0.mono Y0.out.size)
       clear r0 r4 z0
       have r0:R.cell? ⟨x,2,none⟩=some (.slice p1 p2 p3):=cell_of_row _ _ _ _ 104 _ (Q.out R y2)
       have r4:R.cell? ⟨x,4,none⟩=some (.string A):=cell_of_row _ _ _ _ 104 _ (Q.out R y2)
       have Y1:Hid _:=y2
       clear y2
       go_wp2_with fail
       refine (zBt _ _ _ (G.out R _ Y1.out F3.out)).mono ?_
       rintro e' U ⟨rfl,z1⟩
       have y3:Below j.heap.size j U:=Y1.out.trans (z1.mono Y1.out.size)
       clear r0 r4 z1
       have r0:U.cell? ⟨x,3,none⟩=some (.slice q1 q2 q3):=cell_of_row _ _ _ _ 104 _ (Q.out U y3)
       have r4:U.cell? ⟨x,4,none⟩=some (.string A):=cell_of_row _ _ _ _ 104 _ (Q.out U y3)
       have Y2:Hid _:=y3
       clear y3
       go_wp2_with fail
       refine (zBt _ _ _ (G.out U _ Y2.out F4.out)).mono ?_
       rintro e' w5 ⟨rfl,z2⟩
       have y4:Below j.heap.size j w5:=Y2.out.trans (z2.mono Y2.out.size)
       clear r0 r4 z2
       have W:Below w.heap.size w w5:=bG.out.trans ((F.out.trans (y4.mono F.out.size)).mono bG.out.size)
       have aM:Hid _:=W
       clear y4 W
       go_wp2_with fail
       go_roundw
       case rel=>exact⟨i+1,by omega,by go_num,aM.out⟩
       case measure=>simp[intOf];omega
      ·have aV:¬(i:Int)<(bk.O.length:Int):=by omega
       clear hb
       go_wp2_with fail
       go_loopw [9] (fun iv wr=>∃i:Nat,i≤bk.E.length∧iv=.int .i64 i∧Below w.heap.size w wr) (fun iv _=>bk.E.length-(intOf iv).toNat)
       case atStart=>exact⟨0,Nat.zero_le _,rfl,bG.out⟩
       case round=>
        obtain⟨i,hi,rfl,hb⟩:=hrel
        have bE:Hid (Below w.heap.size w wr):=hb
        obtain⟨o2,o3,o4,o5⟩:=HC.out wr hb
        by_cases a1:i<bk.E.length
        ·obtain⟨g,ha,D,J⟩:=zBP H5.out i a1
         subst ha
         obtain⟨e,he⟩:∃e,bk.E[i]=e:=⟨_,rfl⟩
         obtain⟨aX,hm,_⟩:=(HH.out.low hb).E e (by rw[←he];exact List.getElem_mem a1)
         rw[he]at J
         obtain⟨el,ea,eb,ec,aS⟩:=e
         obtain⟨A,rfl⟩:∃s,aS=.string s:=hm
         obtain⟨f1,f2,f3,f4⟩:=aX
         have F1:Hid (FulG wr 131 2 (mkE (.string A)) el):=f1
         have F2:Hid (FulG wr 131 2 (mkE (.string A)) ea):=f2
         have F3:Hid (FulG wr 131 2 (mkE (.string A)) eb):=f3
         have F4:Hid (FulG wr 131 2 (mkE (.string A)) ec):=f4
         obtain⟨l1,l2,l3,hl,_⟩:=f1
         subst hl
         obtain⟨m1,m2,m3,hm,_⟩:=f2
         subst hm
         obtain⟨p1,p2,p3,hp,_⟩:=f3
         subst hp
         obtain⟨q1,q2,q3,hq,_⟩:=f4
         subst hq
         have c0:wr.cell? ⟨g,i*5,none⟩=some (.slice l1 l2 l3):=(hb.cell (p:=⟨g,i*5,none⟩) D).trans (J 0 (by omega))
         have c1:wr.cell? ⟨g,i*5+1,none⟩=some (.slice m1 m2 m3):=(hb.cell (p:=⟨g,i*5+1,none⟩) D).trans (J 1 (by omega))
         have c2:wr.cell? ⟨g,i*5+2,none⟩=some (.slice p1 p2 p3):=(hb.cell (p:=⟨g,i*5+2,none⟩) D).trans (J 2 (by omega))
         have c3:wr.cell? ⟨g,i*5+3,none⟩=some (.slice q1 q2 q3):=(hb.cell (p:=⟨g,i*5+3,none⟩) D).trans (J 3 (by omega))
         have c4:wr.cell? ⟨g,i*5+4,none⟩=some (.string A):=(hb.cell (p:=⟨g,i*5+4,none⟩) D).trans (J 4 (by omega))
         have bP:(0:Int)≤(i:Int):=by omega
         have aV:(i:Int)<(bk.E.length:Int):=by omega
         clear J hb he
         go_wp2_with fail
         obtain⟨j,N⟩:∃j,j=wr.alloc (Obj.cells #[Value.slice l1 l2 l3,Value.slice m1 m2 m3,Value.slice p1 p2 p3,Value.slice q1 q2 q3,.string A] 107):=⟨_,rfl⟩
         have u:j.heap[wr.heap.size]? =some (.cells #[Value.slice l1 l2 l3,Value.slice m1 m2 m3,Value.slice p1 p2 p3,Value.slice q1 q2 q3,.string A] 107 (0,0)):=by rw[N];exact heap_alloc_new _ _
         have F:Hid (Below wr.heap.size wr j):=by show Below wr.heap.size wr j;rw[N];exact (Below.refl _ _).alloc (Nat.le_refl _) _
         rw[←N]
         clear N c0 c1 c2 c3 c4 o2 o3 o4 o5
         obtain⟨x,hx⟩:∃x,x=wr.heap.size:=⟨_,rfl⟩
         have a4:x<j.heap.size:=by rw[hx];exact (Array.getElem?_eq_some_iff.1 u).1
         rw[←hx]at u ⊢
         have Q:Hid (∀X:World,Below j.heap.size j X→X.heap[x]? =some (.cells #[Value.slice l1 l2 l3,Value.slice m1 m2 m3,Value.slice p1 p2 p3,Value.slice q1 q2 q3,.string A] 107 (0,0))):=fun X hX=>(hX.block x a4).trans u
         have G:Hid (∀(X:World) (v:Value),Below j.heap.size j X→FulG wr 131 2 (mkE (.string A)) v→FulG X 131 2 (mkE (.string A)) v):=fun X v hX hv=>hv.kept (fun q cur _ J=>by
          have a2:=(Array.getElem?_eq_some_iff.1 J).1
          rw[hX.block q (Nat.lt_of_lt_of_le a2 F.out.size),F.out.block q a2])
         clear hx u a4
         refine (zBr _ _ _ (G.out j _ (Below.refl _ _) F1.out)).mono ?_
         rintro e' w2 ⟨rfl,y1⟩
         have r0:w2.cell? ⟨x,1,none⟩=some (.slice m1 m2 m3):=cell_of_row _ _ _ _ 107 _ (Q.out w2 y1)
         have r4:w2.cell? ⟨x,4,none⟩=some (.string A):=cell_of_row _ _ _ _ 107 _ (Q.out w2 y1)
         have Y0:Hid _:=y1
         clear y1
         go_wp2_with fail
         refine (zBr _ _ _ (G.out w2 _ Y0.out F2.out)).mono ?_
         rintro e' R ⟨rfl,z0⟩
         have y2:Below j.heap.size j R:=Y0.out.trans (z0.mono Y0.out.size)
         clear r0 r4 z0
         have r0:R.cell? ⟨x,2,none⟩=some (.slice p1 p2 p3):=cell_of_row _ _ _ _ 107 _ (Q.out R y2)
         have r4:R.cell? ⟨x,4,none⟩=some (.string A):=cell_of_row _ _ _ _ 107 _ (Q.out R y2)
         have Y1:Hid _:=y2
         clear y2
         go_wp2_with fail
         refine (zBr _ _ _ (G.out R _ Y1.out F3.out)).mono ?_
         rintro e' U ⟨rfl,z1⟩
         have y3:Below j.heap.size j U:=Y1.out.trans (z1.mono Y1.out.size)
         clear r0 r4 z1
         have r0:U.cell? ⟨x,3,none⟩=some (.slice q1 q2 q3):=cell_of_row _ _ _ _ 107 _ (Q.out U y3)
         have r4:U.cell? ⟨x,4,none⟩=some (.string A):=cell_of_row _ _ _ _ 107 _ (Q.out U y3)
         have Y2:Hid _:=y3
         clear y3
         go_wp2_with fail
         refine (zBr _ _ _ (G.out U _ Y2.out F4.out)).mono ?_
         rintro e' w5 ⟨rfl,z2⟩
         have y4:Below j.heap.size j w5:=Y2.out.trans (z2.mono Y2.out.size)
         clear r0 r4 z2
         have W:Below w.heap.size w w5:=bE.out.trans ((F.out.trans (y4.mono F.out.size)).mono bE.out.size)
         have aM:Hid _:=W
         clear y4 W
         go_wp2_with fail
         go_roundw
         case rel=>exact⟨i+1,by omega,by go_num,aM.out⟩
         case measure=>simp[intOf];omega
        ·have aV:¬(i:Int)<(bk.E.length:Int):=by omega
         clear hb
         go_wp2_with fail
         go_ret
         exact⟨rfl,bE.out⟩
def drV (ds:List Dr):List Value:=ds.flatMap fun d=>[.pointer (some ⟨d.v,0,none⟩),.pointer (some ⟨d.y,0,none⟩)]
structure Dr.away (a b:Dr):Prop where
 q:a.q≠b.q
 f:a.f≠b.f
 v:a.v≠b.v
 y1:∀j,a.C≤j→j<a.Y.heap.size→j≠b.q
 y2:∀j,b.C≤j→j<b.Y.heap.size→j≠a.q
structure HK (kt:Nat→Int)(base h:Nat)(lost:Bool)(ds:List Dr)(bk:Bk)(Z:Nat→Prop)(w:World):Prop where
 lo:base≤h
 bs:8≤base
 bw:base≤w.heap.size
 book:∃l0,BkI base h l0 (.bool lost) bk w∧w.ownsRow base 53 2 l0 ds.length (drV ds)
 fit:∀d∈ds,d.fit kt
 here:∀d∈ds,d.at kt base Z w
 ne:ds.Pairwise Dr.away
 far:∀j,bk.has j→∀d∈ds,j≠d.q∧j≠d.f∧j≠d.v
 glb:Glb kt w
def noZ:Nat→Prop:=fun _=>False
theorem zNz {α:Type}{R:α→α→Prop}{a b:α}:∀{l:List α},l.Pairwise R→a∈l→b∈l→a=b∨R a b∨R b a
 |[],_,ha,_=>by cases ha
 |x::r,h,ha,hb=>by
  rw[List.pairwise_cons]at h
  rcases List.mem_cons.1 ha with D|u
  ·rcases List.mem_cons.1 hb with A|j
   ·exact .inl (by rw[D,A])
   ·exact .inr (.inl (by rw[D];exact h.1 b j))
  ·rcases List.mem_cons.1 hb with A|j
   ·exact .inr (.inr (by rw[A];exact h.1 a u))
   ·exact zNz h.2 u j
section
variable {kt:Nat→Int} {base h:Nat} {lost:Bool} {ds:List Dr} {bk:Bk} {Z:Nat→Prop} {w w':World}
theorem HK.low (H:HK kt base h lost ds bk Z w)(hb:Below w.heap.size w w'):HK kt base h lost ds bk Z w':=by
 obtain⟨D,u,j⟩:=H.book
 exact⟨H.lo,H.bs,Nat.le_trans H.bw hb.size,⟨D,u.low hb,zD j (fun q A=>hb.block q (zG j q A))⟩,H.fit,fun d hd=>(H.here d hd).low hb,H.ne,H.far,H.glb.low H.bs (hb.mono H.bw)⟩
theorem HK.mono {u:Nat→Prop}(H:HK kt base h lost ds bk Z w)(A:∀j,u j→Z j):HK kt base h lost ds bk u w:=⟨H.lo,H.bs,H.bw,H.book,H.fit,fun d hd=>(H.here d hd).mono A,H.ne,H.far,H.glb⟩
theorem HK.work (H:HK kt base h lost ds bk noZ w){d:Dr}(hd:d∈ds)(A:Fr (fun j=>j=d.q∨j=d.f∨j=d.v) w w')(a4:VL d.v d.k 0 w')(a5:∃dn zs U,VS kt d.B d.k d.g d.p d.q d.f (tT d.t0) d.un d.ul d.rd d.bl dn zs U w'∧∀j,Z j→¬zH8 d.un U dn (tT d.t0).L.ns j)(W:∀j,Z j→w.heap.size≤j):HK kt base h lost ds bk Z w':=by
 obtain⟨l0,h1,h2⟩:=H.book
 have G:=H.here d hd
 obtain⟨dn,zs,U,hV,_⟩:=G.vs
 have N:∀(j:Nat) (D:Array Value) (t:TypeId),w.heap[j]? =some (.cells D t (0,0))→t≠9→t≠212→t≠70→w'.heap[j]? =some (.cells D t (0,0)):=fun j D t u Q R a3=>by
  rw[A.old j (Array.getElem?_eq_some_iff.1 u).1 (fun e=>by
   rcases e with e|e|e
   ·exact zE u hV.blR Q e
   ·exact zE u hV.fiR R e
   ·exact zE u G.vl a3 e)]
  exact u
 have J:Below base w w':=Fr.low A (fun j u=>by
  obtain⟨_,l1,l2,l3,_⟩:=G.lo
  rcases u with e|e|e<;>rw[e]<;>assumption) H.bw
 refine⟨H.lo,H.bs,Nat.le_trans H.bw A.size,⟨l0,h1.kept A.size (fun j D t X u=>N j D t u (by rcases X with e|e|e|e|e<;>rw[e]<;>decide) (by rcases X with e|e|e|e|e<;>rw[e]<;>decide) (by rcases X with e|e|e|e|e<;>rw[e]<;>decide)) (fun q hq=> ?_),zF h2 (fun j D _ u=>N j D 53 u (by decide) (by decide) (by decide))⟩,H.fit,fun d' F=> ?_,H.ne,H.far,H.glb.low H.bs J⟩
 ·obtain⟨Q,R,a3⟩:=H.far q hq d hd
  exact A.old q (h1.lt hq).2 (fun e=>by
   rcases e with e|e|e
   ·exact Q e
   ·exact R e
   ·exact a3 e)
 ·rcases zNz H.ne F hd with e|e|e
  ·subst e
   exact G.self A a4 a5 W
  ·exact (H.here d' F).other G A e.q e.f e.v e.y1 W
  ·exact (H.here d' F).other G A e.q.symm e.f.symm e.v.symm e.y2 W
theorem HK.keepI {z:Value}{l0:Value}(H:HK kt base h lost ds bk Z w)(h2:w.ownsRow base 53 2 l0 ds.length (drV ds))(hK:zLC base h l0 (.bool lost) bk z w w')(hz:∀j,z.ownBlock=some j→Z j∧∃R t,w.heap[j]? =some (.cells R t (0,0))∧(t=3∨t=9∨t=131∨t=149)):∃x:Ent,HK kt base h lost ds { bk with n:=bk.n+1,I:=bk.I++[x] } Z w'∧∀j,Bk.has { bk with n:=bk.n+1,I:=bk.I++[x] } j→bk.has j∨z.ownBlock=some j∨w.heap.size≤j:=by
 obtain⟨x,b1,b2,b3,Q⟩:=hK
 have F:∀j,Bk.has { bk with n:=bk.n+1,I:=bk.I++[x] } j→bk.has j∨z.ownBlock=some j∨w.heap.size≤j:=fun j u=>by
  have hx:(∃e∈bk.I++[x],e.has j)→(∃e∈bk.I,e.has j)∨z.ownBlock=some j∨w.heap.size≤j:=fun ⟨e,G,X⟩=>by
   rcases List.mem_append.1 G with G|G
   ·exact .inl ⟨e,G,X⟩
   ·rw[List.mem_singleton.1 G]at X
    exact .inr (b2 j X)
  rcases u with u|u|u|u
  ·exact .inl (.inl u)
  ·rcases hx u with D|D
   ·exact .inl (.inr (.inl D))
   ·exact .inr D
  ·exact .inl (.inr (.inr (.inl u)))
  ·exact .inl (.inr (.inr (.inr u)))
 refine⟨x,⟨H.lo,H.bs,Nat.le_trans H.bw Q.size,⟨l0,b1,zF h2 (fun j R _ u=>b3 j R 53 u (by decide) (by decide) (fun e=> ?_))⟩,H.fit,fun d hd=>(H.here d hd).kz b3 (by decide) hz Q.size,H.ne,fun j u d hd=> ?_,H.glb.low H.bs Q⟩,F⟩
 ·obtain⟨_,U,t2,J,A⟩:=hz j e
  exact zE u J (by rcases A with e|e|e|e<;>rw[e]<;>decide) rfl
 ·have N:=H.here d hd
  obtain⟨dn,zs,bd,W,_⟩:=N.vs
  rcases F j u with D|D|D
  ·exact H.far j D d hd
  ·obtain⟨hZ,U,t2,J,A⟩:=hz j D
   exact⟨(N.zn j hZ).1,zE J W.fiR (by rcases A with e|e|e|e<;>rw[e]<;>decide),zE J N.vl (by rcases A with e|e|e|e<;>rw[e]<;>decide)⟩
  ·have l1:=W.blR.lt
   have l2:=W.fiR.lt
   have l3:=(Array.getElem?_eq_some_iff.1 N.vl).1
   exact⟨by omega,by omega,by omega⟩
theorem HK.keepE {z:Value}{l0:Value}(H:HK kt base h lost ds bk Z w)(h2:w.ownsRow base 53 2 l0 ds.length (drV ds))(hK:zJA base h l0 (.bool lost) bk z w w')(hz:∀j,z.ownBlock=some j→Z j∧∃R t,w.heap[j]? =some (.cells R t (0,0))∧(t=3∨t=9∨t=131∨t=149)):∃x:Ent,HK kt base h lost ds { bk with n:=bk.n+1,E:=bk.E++[x] } Z w'∧∀j,Bk.has { bk with n:=bk.n+1,E:=bk.E++[x] } j→bk.has j∨z.ownBlock=some j∨w.heap.size≤j:=by
 obtain⟨x,b1,b2,b3,Q⟩:=hK
 have F:∀j,Bk.has { bk with n:=bk.n+1,E:=bk.E++[x] } j→bk.has j∨z.ownBlock=some j∨w.heap.size≤j:=fun j u=>by
  have hx:(∃e∈bk.E++[x],e.has j)→(∃e∈bk.E,e.has j)∨z.ownBlock=some j∨w.heap.size≤j:=fun ⟨e,G,X⟩=>by
   rcases List.mem_append.1 G with G|G
   ·exact .inl ⟨e,G,X⟩
   ·rw[List.mem_singleton.1 G]at X
    exact .inr (b2 j X)
  rcases u with u|u|u|u
  ·exact .inl (.inl u)
  ·exact .inl (.inr (.inl u))
  ·exact .inl (.inr (.inr (.inl u)))
  ·rcases hx u with D|D
   ·exact .inl (.inr (.inr (.inr D)))
   ·exact .inr D
 refine⟨x,⟨H.lo,H.bs,Nat.le_trans H.bw Q.size,⟨l0,b1,zF h2 (fun j R _ u=>b3 j R 53 u (by decide) (by decide) (fun e=> ?_))⟩,H.fit,fun d hd=>(H.here d hd).kz b3 (by decide) hz Q.size,H.ne,fun j u d hd=> ?_,H.glb.low H.bs Q⟩,F⟩
 ·obtain⟨_,U,t2,J,A⟩:=hz j e
  exact zE u J (by rcases A with e|e|e|e<;>rw[e]<;>decide) rfl
 ·have N:=H.here d hd
  obtain⟨dn,zs,bd,W,_⟩:=N.vs
  rcases F j u with D|D|D
  ·exact H.far j D d hd
  ·obtain⟨hZ,U,t2,J,A⟩:=hz j D
   exact⟨(N.zn j hZ).1,zE J W.fiR (by rcases A with e|e|e|e<;>rw[e]<;>decide),zE J N.vl (by rcases A with e|e|e|e<;>rw[e]<;>decide)⟩
  ·have l1:=W.blR.lt
   have l2:=W.fiR.lt
   have l3:=(Array.getElem?_eq_some_iff.1 N.vl).1
   exact⟨by omega,by omega,by omega⟩
theorem HK.keepT {z:Value}{l0:Value}(H:HK kt base h lost ds bk Z w)(h2:w.ownsRow base 53 2 l0 ds.length (drV ds))(hK:zLE base h l0 (.bool lost) bk z w w')(hz:∀j,z.ownBlock=some j→Z j∧∃R t,w.heap[j]? =some (.cells R t (0,0))∧(t=3∨t=9∨t=131∨t=149)):∃x:Ent,HK kt base h lost ds { bk with n:=bk.n+1,T:=bk.T++[x] } Z w'∧∀j,Bk.has { bk with n:=bk.n+1,T:=bk.T++[x] } j→bk.has j∨z.ownBlock=some j∨w.heap.size≤j:=by
 obtain⟨x,b1,b2,b3,Q⟩:=hK
 have F:∀j,Bk.has { bk with n:=bk.n+1,T:=bk.T++[x] } j→bk.has j∨z.ownBlock=some j∨w.heap.size≤j:=fun j u=>by
  have hx:(∃e∈bk.T++[x],e.has j)→(∃e∈bk.T,e.has j)∨z.ownBlock=some j∨w.heap.size≤j:=fun ⟨e,G,X⟩=>by
   rcases List.mem_append.1 G with G|G
   ·exact .inl ⟨e,G,X⟩
   ·rw[List.mem_singleton.1 G]at X
    exact .inr (b2 j X)
  rcases u with u|u|u|u
  ·rcases hx u with D|D
   ·exact .inl (.inl D)
   ·exact .inr D
  ·exact .inl (.inr (.inl u))
  ·exact .inl (.inr (.inr (.inl u)))
  ·exact .inl (.inr (.inr (.inr u)))
 refine⟨x,⟨H.lo,H.bs,Nat.le_trans H.bw Q.size,⟨l0,b1,zF h2 (fun j R _ u=>b3 j R 53 u (by decide) (by decide) (fun e=> ?_))⟩,H.fit,fun d hd=>(H.here d hd).kz b3 (by decide) hz Q.size,H.ne,fun j u d hd=> ?_,H.glb.low H.bs Q⟩,F⟩
 ·obtain⟨_,U,t2,J,A⟩:=hz j e
  exact zE u J (by rcases A with e|e|e|e<;>rw[e]<;>decide) rfl
 ·have N:=H.here d hd
  obtain⟨dn,zs,bd,W,_⟩:=N.vs
  rcases F j u with D|D|D
  ·exact H.far j D d hd
  ·obtain⟨hZ,U,t2,J,A⟩:=hz j D
   exact⟨(N.zn j hZ).1,zE J W.fiR (by rcases A with e|e|e|e<;>rw[e]<;>decide),zE J N.vl (by rcases A with e|e|e|e<;>rw[e]<;>decide)⟩
  ·have l1:=W.blR.lt
   have l2:=W.fiR.lt
   have l3:=(Array.getElem?_eq_some_iff.1 N.vl).1
   exact⟨by omega,by omega,by omega⟩
theorem HK.keepO {z:Value}{l0:Value}(H:HK kt base h lost ds bk Z w)(h2:w.ownsRow base 53 2 l0 ds.length (drV ds))(hK:zLD base h l0 (.bool lost) bk z w w')(hz:∀j,z.ownBlock=some j→Z j∧∃R t,w.heap[j]? =some (.cells R t (0,0))∧(t=3∨t=9∨t=131∨t=149)):∃x:Ent,HK kt base h lost ds { bk with n:=bk.n+1,O:=bk.O++[x] } Z w'∧∀j,Bk.has { bk with n:=bk.n+1,O:=bk.O++[x] } j→bk.has j∨z.ownBlock=some j∨w.heap.size≤j:=by
 obtain⟨x,b1,b2,b3,Q⟩:=hK
 have F:∀j,Bk.has { bk with n:=bk.n+1,O:=bk.O++[x] } j→bk.has j∨z.ownBlock=some j∨w.heap.size≤j:=fun j u=>by
  have hx:(∃e∈bk.O++[x],e.has j)→(∃e∈bk.O,e.has j)∨z.ownBlock=some j∨w.heap.size≤j:=fun ⟨e,G,X⟩=>by
   rcases List.mem_append.1 G with G|G
   ·exact .inl ⟨e,G,X⟩
   ·rw[List.mem_singleton.1 G]at X
    exact .inr (b2 j X)
  rcases u with u|u|u|u
  ·exact .inl (.inl u)
  ·exact .inl (.inr (.inl u))
  ·rcases hx u with D|D
   ·exact .inl (.inr (.inr (.inl D)))
   ·exact .inr D
  ·exact .inl (.inr (.inr (.inr u)))
 refine⟨x,⟨H.lo,H.bs,Nat.le_trans H.bw Q.size,⟨l0,b1,zF h2 (fun j R _ u=>b3 j R 53 u (by decide) (by decide) (fun e=> ?_))⟩,H.fit,fun d hd=>(H.here d hd).kz b3 (by decide) hz Q.size,H.ne,fun j u d hd=> ?_,H.glb.low H.bs Q⟩,F⟩
 ·obtain⟨_,U,t2,J,A⟩:=hz j e
  exact zE u J (by rcases A with e|e|e|e<;>rw[e]<;>decide) rfl
 ·have N:=H.here d hd
  obtain⟨dn,zs,bd,W,_⟩:=N.vs
  rcases F j u with D|D|D
  ·exact H.far j D d hd
  ·obtain⟨hZ,U,t2,J,A⟩:=hz j D
   exact⟨(N.zn j hZ).1,zE J W.fiR (by rcases A with e|e|e|e<;>rw[e]<;>decide),zE J N.vl (by rcases A with e|e|e|e<;>rw[e]<;>decide)⟩
  ·have l1:=W.blR.lt
   have l2:=W.fiR.lt
   have l3:=(Array.getElem?_eq_some_iff.1 N.vl).1
   exact⟨by omega,by omega,by omega⟩
end
theorem zHs (l:List Nat)(X B2:Nat)(x y:Value)(w:World)(hl:l.length≤100000000)(D:w.ownsRow X 3 1 x l.length (unV l))(F:w.ownsRow B2 3 1 y l.length (unV l)):
 Calls Tryz.prog 63 #[x,y] w fun e w'=>e=.returned (.bool true)∧Below w.heap.size w w':=by
 obtain⟨a,c,rfl⟩:=zA D
 obtain⟨b,d,rfl⟩:=zA F
 have N:Hid (∀i,i<l.length→∃g,a=some ⟨g,0,none⟩∧w.cell? ⟨g,i,none⟩=some (.int .i64 (l.getD i 0:Nat))):=zEH D rfl
 have HB:Hid (∀i,i<l.length→∃g,b=some ⟨g,0,none⟩∧w.cell? ⟨g,i,none⟩=some (.int .i64 (l.getD i 0:Nat))):=zEH F rfl
 obtain⟨n,Q⟩:∃n,l.length=n:=⟨_,rfl⟩
 rw[Q]at N HB hl ⊢
 clear D F Q
 go_enter Tryz.func63,Tryz.ntmps63
 go_wp2_with fail
 go_loopw [5] (fun J wr=>∃i m:Nat,i≤n∧J=.int .i64 i∧wr=w.drewN m) (fun J _=>n-(intOf J).toNat)
 case atStart=>exact⟨0,0,by omega,rfl,rfl⟩
 case round=>
  obtain⟨i,m,hi,rfl,j⟩:=hrel
  by_cases u:i<n
  ·have G:(i:Int)<(n:Int):=by omega
   obtain⟨ga,rfl,U⟩:=N.out i u
   obtain⟨gb,rfl,W⟩:=HB.out i u
   have y0:wr.cell? ⟨ga,i,none⟩=some (.int .i64 (l.getD i 0:Nat)):=by rw[j];exact U
   have y1:wr.cell? ⟨gb,i,none⟩=some (.int .i64 (l.getD i 0:Nat)):=by rw[j];exact W
   obtain⟨z,R⟩:∃z,l.getD i 0=z:=⟨_,rfl⟩
   rw[R]at y0 y1
   have A:Hid _:=j
   clear j U W R
   go_wp2_with fail
   go_quiet (fail)
   go_wp2_with fail
   go_roundw
   case rel=>exact⟨i+1,_,by omega,by go_num,by rw[A.out,World.drewN_drewN]⟩
   case measure=>simp[intOf];omega
  ·have G:¬(i:Int)<(n:Int):=by omega
   have A:Hid _:=j
   clear j
   go_wp2_with fail
   go_ret
   exact⟨rfl,by rw[A.out];exact below_drewN (Below.refl _ _) m⟩
theorem zNj (es:List (ByteArray×Nat))(n:Nat)(hn:es.length=n)(B1 B2:Nat)(x y:Value)(w:World)(aA:n≤1000000)(J:w.ownsRow B1 131 2 x n (enV es))(N:w.ownsRow B2 131 2 y n (enV es)):
 Calls Tryz.prog 31 #[x,y] w fun e w'=>e=.returned (.bool true)∧Below w.heap.size w w':=by
 obtain⟨a,c,rfl⟩:=zA J
 obtain⟨b,d,rfl⟩:=zA N
 have HA:Hid (∀i,i<n→∃g,a=some ⟨g,0,none⟩∧w.cell? ⟨g,i*2,none⟩=some (.string (nmE es i))∧w.cell? ⟨g,i*2+1,none⟩=some (.int .i64 (lnE es i:Nat))):=fun i hi=>by
  obtain⟨g,e,_,F,U⟩:=zd hn.symm J i hi
  exact⟨g,e,F,U⟩
 have HB:Hid (∀i,i<n→∃g,b=some ⟨g,0,none⟩∧w.cell? ⟨g,i*2,none⟩=some (.string (nmE es i))∧w.cell? ⟨g,i*2+1,none⟩=some (.int .i64 (lnE es i:Nat))):=fun i hi=>by
  obtain⟨g,e,_,F,U⟩:=zd hn.symm N i hi
  exact⟨g,e,F,U⟩
 clear J N
 go_enter Tryz.func31,Tryz.ntmps31
 go_wp2_with fail
 go_loopw [5] (fun R wr=>∃i m:Nat,i≤n∧R=.int .i64 i∧wr=w.drewN m) (fun R _=>n-(intOf R).toNat)
 case atStart=>exact⟨0,0,by omega,rfl,rfl⟩
 case round=>
  obtain⟨i,m,hi,rfl,j⟩:=hrel
  by_cases A:i<n
  ·have Q:(i:Int)<(n:Int):=by omega
   obtain⟨ga,rfl,W,x2⟩:=HA.out i A
   obtain⟨gb,rfl,X,x3⟩:=HB.out i A
   obtain⟨nm,D⟩:∃z,nmE es i=z:=⟨_,rfl⟩
   obtain⟨ln,u⟩:∃z,lnE es i=z:=⟨_,rfl⟩
   rw[D]at W X
   rw[u]at x2 x3
   have y0:wr.cell? ⟨ga,i*2,none⟩=some (.string nm):=by rw[j];exact W
   have y1:wr.cell? ⟨gb,i*2,none⟩=some (.string nm):=by rw[j];exact X
   have y2:wr.cell? ⟨ga,i*2+1,none⟩=some (.int .i64 ln):=by rw[j];exact x2
   have y3:wr.cell? ⟨gb,i*2+1,none⟩=some (.int .i64 ln):=by rw[j];exact x3
   have F:(nm.toList == nm.toList)=true:=zS rfl
   have G:Hid _:=j
   clear j W X x2 x3 D u
   go_wp2_with fail
   go_quiet (fail)
   go_wp2_with fail
   go_roundw
   case rel=>exact⟨i+1,_,by omega,by go_num,by rw[G.out,World.drewN_drewN]⟩
   case measure=>simp[intOf];omega
  ·have Q:¬(i:Int)<(n:Int):=by omega
   have G:Hid _:=j
   clear j
   go_wp2_with fail
   go_ret
   exact⟨rfl,by rw[G.out];exact below_drewN (Below.refl _ _) m⟩
theorem zNk (F G:Nat→Ob)(n:Nat)(h:∀i,i<n→F i=G i)(B1 B2:Nat)(x y:Value)(w:World)(aB:n≤1000000)(hA:OwnF w B1 x n F)(hB:OwnF w B2 y n G):
 Calls Tryz.prog 67 #[x,y] w fun e w'=>e=.returned (.bool true)∧Below w.heap.size w w':=by
 obtain⟨a,c,rfl,u⟩:=hA.cells
 obtain⟨b,d,rfl,A⟩:=hB.cells
 have HA:Hid (∀i,i<n→∃g,a=some ⟨g,0,none⟩∧w.cell? ⟨g,i*2,none⟩=some (.string (F i).1)∧w.cell? ⟨g,i*2+1,none⟩=some (.string (F i).2)):=u
 have HB:Hid (∀i,i<n→∃g,b=some ⟨g,0,none⟩∧w.cell? ⟨g,i*2,none⟩=some (.string (F i).1)∧w.cell? ⟨g,i*2+1,none⟩=some (.string (F i).2)):=fun i hi=>by rw[h i hi];exact A i hi
 clear u A h
 clear hA hB
 go_enter Tryz.func67,Tryz.ntmps67
 go_wp2_with fail
 go_loopw [5] (fun U wr=>∃i m:Nat,i≤n∧U=.int .i64 i∧wr=w.drewN m) (fun U _=>n-(intOf U).toNat)
 case atStart=>exact⟨0,0,by omega,rfl,rfl⟩
 case round=>
  obtain⟨i,m,hi,rfl,j⟩:=hrel
  by_cases J:i<n
  ·have R:(i:Int)<(n:Int):=by omega
   obtain⟨ga,rfl,W,x2⟩:=HA.out i J
   obtain⟨gb,rfl,X,x3⟩:=HB.out i J
   obtain⟨nm,N⟩:∃z,(F i).1=z:=⟨_,rfl⟩
   obtain⟨ln,D⟩:∃z,(F i).2=z:=⟨_,rfl⟩
   rw[N]at W X
   rw[D]at x2 x3
   have y0:wr.cell? ⟨ga,i*2,none⟩=some (.string nm):=by rw[j];exact W
   have y1:wr.cell? ⟨gb,i*2,none⟩=some (.string nm):=by rw[j];exact X
   have y2:wr.cell? ⟨ga,i*2+1,none⟩=some (.string ln):=by rw[j];exact x2
   have y3:wr.cell? ⟨gb,i*2+1,none⟩=some (.string ln):=by rw[j];exact x3
   have q1:(nm.toList == nm.toList)=true:=zS rfl
   have Q:Hid _:=j
   clear j W X x2 x3 N D
   go_wp2_with fail
   go_quiet (fail)
   go_wp2_with fail
   go_roundw
   case rel=>exact⟨i+1,_,by omega,by go_num,by rw[Q.out,World.drewN_drewN]⟩
   case measure=>simp[intOf];omega
  ·have R:¬(i:Int)<(n:Int):=by omega
   have Q:Hid _:=j
   clear j
   go_wp2_with fail
   go_ret
   exact⟨rfl,by rw[Q.out];exact below_drewN (Below.refl _ _) m⟩
theorem zNl (K M C V:Int)(w:World):
 Calls Tryz.prog 26 #[.agg #[.int .i64 K,.int .i64 M,.int .i64 C,.int .i64 V],.agg #[.int .i64 K,.int .i64 M,.int .i64 C,.int .i64 V]] w fun e w'=>e=.returned (.bool true)∧Below w.heap.size w w':=by
 have HB:Hid (Below w.heap.size w ((w.alloc (.cells #[.int .i64 K,.int .i64 M,.int .i64 C,.int .i64 V] 81)).alloc (.cells #[.int .i64 K,.int .i64 M,.int .i64 C,.int .i64 V] 81))):=by
  have j:Below w.heap.size w (w.alloc (.cells #[.int .i64 K,.int .i64 M,.int .i64 C,.int .i64 V] 81)):=(Below.refl _ _).alloc (Nat.le_refl _) _
  exact j.alloc j.size _
 go_enter Tryz.func26,Tryz.ntmps26
 go_wp2_with fail
 go_ret
 exact⟨rfl,HB.out⟩
end Go.Proofs.YtlopecgkiikdhaaGreatDoor
