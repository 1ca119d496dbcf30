import Derived.Test.YtlopecgkiikdhaaGreatDoorX38
import Derived.Test.YtlopecgkiikdhaaGreatDoorX40
namespace Go.Proofs.YtlopecgkiikdhaaGreatDoor
open Go.RowKit
set_option maxRecDepth 100000
set_option maxHeartbeats 4000000
def Bk.le (b:Bk)(m:Nat):Prop:=b.n≤m∧b.T.length≤m∧b.I.length≤m∧b.O.length≤m∧b.E.length≤m
theorem Bk.le.more {b:Bk}{m k:Nat}(h:b.le m)(hk:m≤k):b.le k:=by
 obtain⟨j,u,A,D,F⟩:=h
 exact⟨by omega,by omega,by omega,by omega,by omega⟩
theorem Bk.le.oneI {b:Bk}{m:Nat}{x:Ent}(h:b.le m):Bk.le { b with n:=b.n+1,I:=b.I++[x] } (m+1):=by
 obtain⟨j,u,A,D,F⟩:=h
 exact⟨by show b.n+1≤m+1;omega,by show b.T.length≤m+1;omega,by show (b.I++[x]).length≤m+1;rw[List.length_append];simp;omega,by show b.O.length≤m+1;omega,by show b.E.length≤m+1;omega⟩
theorem Bk.le.oneE {b:Bk}{m:Nat}{x:Ent}(h:b.le m):Bk.le { b with n:=b.n+1,E:=b.E++[x] } (m+1):=by
 obtain⟨j,u,A,D,F⟩:=h
 exact⟨by show b.n+1≤m+1;omega,by show b.T.length≤m+1;omega,by show b.I.length≤m+1;omega,by show b.O.length≤m+1;omega,by show (b.E++[x]).length≤m+1;rw[List.length_append];simp;omega⟩
theorem Bk.le.oneT {b:Bk}{m:Nat}{x:Ent}(h:b.le m):Bk.le { b with n:=b.n+1,T:=b.T++[x] } (m+1):=by
 obtain⟨j,u,A,D,F⟩:=h
 exact⟨by show b.n+1≤m+1;omega,by show (b.T++[x]).length≤m+1;rw[List.length_append];simp;omega,by show b.I.length≤m+1;omega,by show b.O.length≤m+1;omega,by show b.E.length≤m+1;omega⟩
theorem Bk.le.oneO {b:Bk}{m:Nat}{x:Ent}(h:b.le m):Bk.le { b with n:=b.n+1,O:=b.O++[x] } (m+1):=by
 obtain⟨j,u,A,D,F⟩:=h
 exact⟨by show b.n+1≤m+1;omega,by show b.T.length≤m+1;omega,by show b.I.length≤m+1;omega,by show (b.O++[x]).length≤m+1;rw[List.length_append];simp;omega,by show b.E.length≤m+1;omega⟩
def HSt (kt:Nat→Int)(base h:Nat)(lost:Bool)(ds:List Dr)(m:Nat)(w w':World):Prop:=∃bk,HK kt base h lost ds bk noZ w'∧bk.le m∧Below base w w'
structure RpI (kt:Nat→Int)(base h:Nat)(lost:Bool)(ds:List Dr)(m:Nat)(Z:Nat→Prop)(S r q:Nat)(rc qc:Array Value)(L:List (Value×Value×List Nat))(W w:World):Prop where
 hk:∃bk,HK kt base h lost ds bk Z w∧bk.le m∧∀x∈L,∀j,x.1.ownBlock=some j→¬bk.has j
 r:w.heap[r]? =some (.cells rc 133 (0,0))
 q:w.heap[q]? =some (.cells qc 133 (0,0))
 own:∀x∈L,w.ownsRow base 3 1 x.1 x.2.2.length (unV x.2.2)∧w.ownsRow S 3 1 x.2.1 x.2.2.length (unV x.2.2)
 apt:(L.map Prod.fst).Pairwise Apt
 z:∀x∈L,∀j,x.1.ownBlock=some j→Z j∧j<S
 sz:S≤w.heap.size
 len:∀x∈L,x.2.2.length≤100000000
 bel:Below base W w
section
variable {kt:Nat→Int} {base h:Nat} {lost:Bool} {ds:List Dr} {m:Nat} {Z:Nat→Prop} {S r q:Nat} {rc qc:Array Value} {x:Value×Value×List Nat} {L:List (Value×Value×List Nat)} {W w w':World}
theorem RpI.low (H:RpI kt base h lost ds m Z S r q rc qc L W w)(hb:Below w.heap.size w w'):RpI kt base h lost ds m Z S r q rc qc L W w':=by
 obtain⟨F,D,G,J⟩:=H.hk
 exact⟨⟨F,D.low hb,G,J⟩,(hb.block _ (Array.getElem?_eq_some_iff.1 H.r).1).trans H.r,(hb.block _ (Array.getElem?_eq_some_iff.1 H.q).1).trans H.q,fun x u=>⟨zD (H.own x u).1 (fun j A=>hb.block j (zG (H.own x u).1 j A)),zD (H.own x u).2 (fun j A=>hb.block j (zG (H.own x u).2 j A))⟩,H.apt,H.z,Nat.le_trans H.sz hb.size,H.len,H.bel.trans (hb.mono D.bw)⟩
theorem RpI.drew (H:RpI kt base h lost ds m Z S r q rc qc L W w):RpI kt base h lost ds m Z S r q rc qc L W w.drew:=H.low (Below.refl _ _).drew
theorem RpI.same (H:RpI kt base h lost ds m Z S r q rc qc (x::L) W w):Calls Tryz.prog 63 #[x.1,x.2.1] w fun e w'=>e=.returned (.bool true)∧RpI kt base h lost ds m Z S r q rc qc (x::L) W w':=
 (zHs x.2.2 base S x.1 x.2.1 w (H.len x (by simp)) (H.own x (by simp)).1 (H.own x (by simp)).2).mono fun _ _ h=>⟨h.1,H.low h.2⟩
theorem RpI.keep (H:RpI kt base h lost ds m Z S r q rc qc (x::L) W w)(hm:m≤100000000000):Calls Tryz.prog 64 #[.pointer (some ⟨h,1,none⟩),x.1] w fun e w'=>e=.returned (.tuple #[])∧RpI kt base h lost ds (m+1) Z S r q rc qc L W w':=by
 obtain⟨bk,X,h2,h3⟩:=H.hk
 obtain⟨l0,a2,a4⟩:=X.book
 have U:x∈x::L:=by simp
 have N:=(H.own x U).1
 refine (keepI base h l0 (.bool lost) bk x.1 x.2.2.length (unV x.2.2) w a2 N (h3 x U) X.bw X.lo (Nat.le_trans (H.len x U) (by omega)) (Nat.le_trans h2.1 hm) (Nat.le_trans h2.2.2.1 hm)).mono fun e w' R=>⟨R.1,?_⟩
 have hK:=R.2
 obtain⟨y,b1,b2,b3,b4⟩:=R.2
 obtain⟨y',h4,h5⟩:=X.keepI a4 hK (fun j u=>⟨(H.z x U j u).1,by obtain⟨c,J⟩:=zB N j u;exact⟨c,3,J,.inl rfl⟩⟩)
 have F:=H.apt
 rw[List.map_cons,List.pairwise_cons]at F
 have G:∀(j:Nat) (D:Array Value) (t:TypeId),w.heap[j]? =some (.cells D t (0,0))→t≠33→t≠101→x.1.ownBlock≠some j→w'.heap[j]? =some (.cells D t (0,0)):=b3
 have Q:∀(j:Nat) (D:Array Value),w.heap[j]? =some (.cells D 133 (0,0))→x.1.ownBlock≠some j:=fun j D u e=>by
  obtain⟨c,J⟩:=zB N j e
  exact zE u J (by decide) rfl
 refine⟨⟨_,h4,h2.oneI,fun y A j u R=> ?_⟩,G _ _ _ H.r (by decide) (by decide) (Q _ _ H.r),G _ _ _ H.q (by decide) (by decide) (Q _ _ H.q),fun y A=> ?_,F.2,fun y A=>H.z y (List.mem_cons_of_mem _ A),Nat.le_trans H.sz b4.size,fun y A=>H.len y (List.mem_cons_of_mem _ A),H.bel.trans b4⟩
 ·rcases h5 j R with e|e|e
  ·exact h3 y (List.mem_cons_of_mem _ A) j u e
  ·exact F.1 y.1 (List.mem_map_of_mem A) j e u
  ·have:=zG (H.own y (List.mem_cons_of_mem _ A)).1 j u
   omega
 ·have ho:=H.own y (List.mem_cons_of_mem _ A)
  refine⟨zF ho.1 (fun j D u J=>G j D 3 J (by decide) (by decide) (fun e=>F.1 y.1 (List.mem_map_of_mem A) j e u)),zF ho.2 (fun j D u J=>G j D 3 J (by decide) (by decide) (fun e=> ?_))⟩
  have h6:=zK ho.2 j u
  have h7:=(H.z x U j e).2
  omega
theorem RpI.fin (H:RpI kt base h lost ds m Z S r q rc qc L W w):HSt kt base h lost ds m W w:=by
 obtain⟨j,u,A,_⟩:=H.hk
 exact⟨j,u.mono (fun _ h=>h.elim),A,H.bel⟩
end
theorem zLn (kt:Nat→Int)(base h:Nat)(lost:Bool)(ds:List Dr)(d:Dr)(m:Nat)(bk:Bk)(w:World)(H:HK kt base h lost ds bk noZ w)(hd:d∈ds)(hm:bk.le m)(i7:m≤10000000000):
 Calls Tryz.prog 34 #[.pointer (some ⟨h,0,none⟩),.agg #[.pointer (some ⟨d.v,0,none⟩),.pointer (some ⟨d.y,0,none⟩)]] w fun e w'=>e=.returned (.bool true)∧HSt kt base h lost ds (m+5) w w':=by
 have hA:=H.here d hd
 have hf:=H.fit d hd
 obtain⟨dn,zs,bd,hV,_⟩:=hA.vs
 obtain⟨hT,cS⟩:=hf.told
 obtain⟨W,hW⟩:∃W,w.alloc (.cells #[.pointer (some ⟨d.v,0,none⟩),.pointer (some ⟨d.y,0,none⟩)] 53)=W:=⟨_,rfl⟩
 have aR:Below w.heap.size w W:=by rw[←hW];exact (Below.refl _ _).alloc (Nat.le_refl _) _
 have aP:W.heap[w.heap.size]? =some (.cells #[.pointer (some ⟨d.v,0,none⟩),.pointer (some ⟨d.y,0,none⟩)] 53 (0,0)):=by rw[←hW];exact heap_alloc_new _ _
 have H1:=H.low aR
 have cK:=H1.here d hd
 have cM:w.heap.size<W.heap.size:=(Array.getElem?_eq_some_iff.1 aP).1
 obtain⟨db,aS⟩:∃x,w.heap.size=x:=⟨_,rfl⟩
 have HV:Hid (Calls Tryz.prog 61 #[.pointer (some ⟨d.v,0,none⟩)] W fun e w'=>zM5 kt d.B d.v d.k d.g d.p d.q d.f (tT d.t0) d.un d.ul d.rd d.bl dn W e w'):=zMt kt d.B d.v d.k d.g d.p d.q d.f (tT d.t0) d.un d.ul d.rd d.bl dn zs bd W cK.vl (hV.below aR) hT cS (Nat.le_trans hf.ul (by omega)) H1.glb.gd (Nat.le_trans hA.bw aR.size) (by have:=hA.lo.2.1;have:=H.bs;omega)
 have HH:Hid _:=H
 have HA:Hid _:=hA
 have HF:Hid _:=hf
 have fM:Hid _:=aR
 have aO:Hid _:=aP
 have aK:Hid _:=H1
 have HT:Hid _:=hT
 rw[aS]at aP aO cM
 have c0:W.cell? ⟨db,0,none⟩=some (.pointer (some ⟨d.v,0,none⟩)):=cell_of_row _ _ _ _ 53 _ aP
 have gI:Hid (w.heap.size=db):=aS
 clear hA hf hV aR aP H1 cK hT cS H
 go_enter Tryz.func34,Tryz.ntmps34
 go_wp2_with fail
 refine Calls.mono HV.out ?_
 rintro e W1 ⟨iH,gY,a,b,c,d',u,rfl,b2,cL,aW,o1,o2,o3,o4,o5,bA⟩
 obtain⟨s1,k1,e1⟩:=zA o1
 obtain⟨s2,k2,e2⟩:=zA o2
 obtain⟨R,Q,e3⟩:=zA o3
 obtain⟨G,F,e4⟩:=zA o4
 obtain⟨D,A,e5⟩:=zA o5
 generalize d.ul.length=n1 at e1
 generalize (abF d.rd (tT d.t0).L.V).length=n2 at e2
 generalize (baF kt (tT d.t0) d.bl (tT d.t0).L.ns).length=n3 at e3
 generalize (fsF kt (tT d.t0) d.bl 1 (tT d.t0).L.ns).length=n4 at e4
 generalize (fsF kt (tT d.t0) d.bl 2 (tT d.t0).L.ns).length=n5 at e5
 subst e1 e2 e3 e4 e5
 obtain⟨b0,aJ⟩:Below base W W1∧W1.heap[db]? =some (.cells #[.pointer (some ⟨d.v,0,none⟩),.pointer (some ⟨d.y,0,none⟩)] 53 (0,0)):=by
  obtain⟨i1,iI,gZ,aL,_⟩:=(aK.out.here d hd).vs
  refine⟨Fr.low aW (fun j hj=> ?_) aK.out.bw,?_⟩
  ·obtain⟨_,l1,l2,l3,_⟩:=HA.out.lo
   rcases hj with e|e|e<;>rw[e]<;>assumption
  ·rw[aW.old db cM (fun e=>by
    rcases e with e|e|e
    ·exact zE aO.out aL.blR (by decide) e
    ·exact zE aO.out aL.fiR (by decide) e
    ·exact zE aO.out (aK.out.here d hd).vl (by decide) e)]
   exact aO.out
 obtain⟨Z,hZ⟩:∃Z:Nat→Prop,Z=fun j=>∃x∈[Value.slice s1 n1 k1,.slice s2 n2 k2,.slice R n3 Q,.slice G n4 F,.slice D n5 A],x.ownBlock=some j:=⟨_,rfl⟩
 have aQ:∀j,Z j→W.heap.size≤j:=fun j hj=>by
  rw[hZ]at hj
  obtain⟨x,hx,e⟩:=hj
  simp only[List.mem_cons,List.not_mem_nil,or_false]at hx
  rcases hx with rfl|rfl|rfl|rfl|rfl
  ·exact zK o1 j e
  ·exact zK o2 j e
  ·exact zK o3 j e
  ·exact zK o4 j e
  ·exact zK o5 j e
 have b3:HK kt base h lost ds bk Z W1:=aK.out.work hd aW b2 ⟨_,_,_,cL,fun j hj=>by
  rw[hZ]at hj
  obtain⟨x,hx,e⟩:=hj
  exact bA.2 x hx j e⟩ aQ
 have fU:Hid _:=bA.1
 obtain⟨J,aM⟩:∃X,W1.alloc (.cells (zAc (.slice s1 n1 k1) (.slice s2 n2 k2) (.slice R n3 Q) (.slice G n4 F) (.slice D n5 A)) 133)=X:=⟨_,rfl⟩
 obtain⟨r,hr⟩:∃x,W1.heap.size=x:=⟨_,rfl⟩
 have aA:Below W1.heap.size W1 J:=by rw[←aM];exact (Below.refl _ _).alloc (Nat.le_refl _) _
 have cW:J.heap[r]? =some (.cells (zAc (.slice s1 n1 k1) (.slice s2 n2 k2) (.slice R n3 Q) (.slice G n4 F) (.slice D n5 A)) 133 (0,0)):=by rw[←aM,←hr];exact heap_alloc_new _ _
 have b1:J.heap[db]? =some (.cells #[.pointer (some ⟨d.v,0,none⟩),.pointer (some ⟨d.y,0,none⟩)] 53 (0,0)):=(aA.block _ (Array.getElem?_eq_some_iff.1 aJ).1).trans aJ
 have x1:J.cell? ⟨db,1,none⟩=some (.pointer (some ⟨d.y,0,none⟩)):=cell_of_row _ _ _ _ 53 _ b1
 have aU:Hid _:=b3.low aA
 have cC:Hid (Calls Tryz.prog 62 #[.pointer (some ⟨d.y,0,none⟩)] J fun e w'=>RVf kt (tT d.t0) (blH (d.hp.map Prod.fst)) d.rd d.ul J e w'):=zMd kt d.C d.y d.vH d.vU d.hp d.ul d.t0 J ((aU.out.here d hd).rb HF.out) HF.out.set aU.out.glb.gr HF.out.hl HF.out.ul d.rd HF.out.rd
 have fL:Hid (Below base w J):=((fM.out.mono HH.out.bw).trans b0).trans (aA.mono b3.bw)
 have cB:Hid _:=cW
 have bT:Hid _:=zD o1 (fun q hq=>aA.block q (zG o1 q hq))
 have bU:Hid _:=zD o2 (fun q hq=>aA.block q (zG o2 q hq))
 have bV:Hid _:=zD o3 (fun q hq=>aA.block q (zG o3 q hq))
 have bW:Hid _:=zD o4 (fun q hq=>aA.block q (zG o4 q hq))
 have bX:Hid _:=zD o5 (fun q hq=>aA.block q (zG o5 q hq))
 have HZ:Hid _:=hZ
 have g4:Hid _:=aQ
 unfold zAc at aM
 unfold zAc
 rw[←aM]at x1 cC
 have g3:Hid _:=aM
 have fV:Hid (W1.heap.size=r):=hr
 clear aM hr
 clear b2 cL aW o1 o2 o3 o4 o5 bA b0 aJ b3 aA cW b1 hZ aQ
 go_wp2_with fail
 refine Calls.mono cC.out ?_
 rw[g3.out]
 rintro e W2 ⟨a',b',c',i0,u',rfl,bG,p1,p2,p3,p4,p5⟩
 rw[fV.out]
 obtain⟨t1,j1,e1⟩:=zA p1
 obtain⟨t2,j2,e2⟩:=zA p2
 obtain⟨t3,j3,e3⟩:=zA p3
 obtain⟨t4,j4,e4⟩:=zA p4
 obtain⟨t5,N,e5⟩:=zA p5
 generalize d.ul.length=m1 at e1
 generalize (abF d.rd (tT d.t0).L.V).length=m2 at e2
 generalize (baF kt (tT d.t0) (blH (d.hp.map Prod.fst)) (tT d.t0).L.ns).length=m3 at e3
 generalize (fsF kt (tT d.t0) (blH (d.hp.map Prod.fst)) 1 (tT d.t0).L.ns).length=m4 at e4
 generalize (fsF kt (tT d.t0) (blH (d.hp.map Prod.fst)) 2 (tT d.t0).L.ns).length=m5 at e5
 subst e1 e2 e3 e4 e5
 obtain⟨X1,aN⟩:∃X,W2.alloc (.cells (zAc (.slice t1 m1 j1) (.slice t2 m2 j2) (.slice t3 m3 j3) (.slice t4 m4 j4) (.slice t5 m5 N)) 133)=X:=⟨_,rfl⟩
 obtain⟨q,hq⟩:∃x,W2.heap.size=x:=⟨_,rfl⟩
 have bF:Below W2.heap.size W2 X1:=by rw[←aN];exact (Below.refl _ _).alloc (Nat.le_refl _) _
 have cV:X1.heap[q]? =some (.cells (zAc (.slice t1 m1 j1) (.slice t2 m2 j2) (.slice t3 m3 j3) (.slice t4 m4 j4) (.slice t5 m5 N)) 133 (0,0)):=by rw[←aN,←hq];exact heap_alloc_new _ _
 have a8:Below J.heap.size J X1:=bG.trans (bF.mono bG.size)
 have cT:(tT d.t0).L.ns≤512∧(baF kt (tT d.t0) d.bl (tT d.t0).L.ns).length≤100000000:=by
  have hT:=HT.out
  have h1:(tT d.t0).L.ns*1≤(tT d.t0).L.ns*(tT d.t0).n:=Nat.mul_le_mul_left _ (by have:=hT.k1;unfold TT.n;omega)
  have h2:(tT d.t0).L.ns*(tT d.t0).n=(tT d.t0).L.cnt:=rfl
  have h3:=hT.cnt
  have h4:=zEg kt (tT d.t0) d.bl (tT d.t0).L.ns
  exact⟨by omega,by omega⟩
 have aV:Hid (RpI kt base h lost ds m Z J.heap.size r q (zAc (.slice s1 n1 k1) (.slice s2 n2 k2) (.slice R n3 Q) (.slice G n4 F) (.slice D n5 A)) (zAc (.slice t1 m1 j1) (.slice t2 m2 j2) (.slice t3 m3 j3) (.slice t4 m4 j4) (.slice t5 m5 N)) [(.slice s1 n1 k1,.slice t1 m1 j1,d.ul),(.slice s2 n2 k2,.slice t2 m2 j2,abF d.rd (tT d.t0).L.V),(.slice R n3 Q,.slice t3 m3 j3,baF kt (tT d.t0) d.bl (tT d.t0).L.ns),(.slice G n4 F,.slice t4 m4 j4,fsF kt (tT d.t0) d.bl 1 (tT d.t0).L.ns),(.slice D n5 A,.slice t5 m5 N,fsF kt (tT d.t0) d.bl 2 (tT d.t0).L.ns)] w X1):=by
  have bH:base≤W.heap.size:=aK.out.bw
  refine⟨⟨bk,aU.out.low a8,hm,fun x hx j hj hh=> ?_⟩,(a8.block _ (Array.getElem?_eq_some_iff.1 cB.out).1).trans cB.out,cV,fun x hx=> ?_,fU.out,fun x hx j hj=> ?_,a8.size,fun x hx=> ?_,fL.out.trans (a8.mono aU.out.bw)⟩
  ·obtain⟨l1,g5,_⟩:=aK.out.book
   have h1:=(g5.lt hh).2
   have h2:W.heap.size≤j:=g4.out j (by
    rw[HZ.out]
    simp only[List.mem_cons,List.not_mem_nil,or_false]at hx
    rcases hx with rfl|rfl|rfl|rfl|rfl<;>exact⟨_,by simp,hj⟩)
   omega
  ·have aT:∀(x:Value) (l:List Nat),J.ownsRow W.heap.size 3 1 x l.length (unV l)→X1.ownsRow base 3 1 x l.length (unV l):=fun x l ho=>zAJ (zD ho (fun q hq=>a8.block q (zG ho q hq))) bH
   have aE:∀(x:Value) (l:List Nat),W2.ownsRow J.heap.size 3 1 x l.length (unV l)→X1.ownsRow J.heap.size 3 1 x l.length (unV l):=fun x l ho=>zD ho (fun q hq=>bF.block q (zG ho q hq))
   simp only[List.mem_cons,List.not_mem_nil,or_false]at hx
   rcases hx with rfl|rfl|rfl|rfl|rfl
   ·exact⟨aT _ _ bT.out,aE _ _ p1⟩
   ·exact⟨aT _ _ bU.out,aE _ _ p2⟩
   ·exact⟨aT _ _ bV.out,aE _ _ p3⟩
   ·exact⟨aT _ _ bW.out,aE _ _ p4⟩
   ·exact⟨aT _ _ bX.out,aE _ _ p5⟩
  ·refine⟨?_,?_⟩
   ·rw[HZ.out]
    simp only[List.mem_cons,List.not_mem_nil,or_false]at hx
    rcases hx with rfl|rfl|rfl|rfl|rfl<;>exact⟨_,by simp,hj⟩
   ·simp only[List.mem_cons,List.not_mem_nil,or_false]at hx
    rcases hx with rfl|rfl|rfl|rfl|rfl
    ·exact zG bT.out j hj
    ·exact zG bU.out j hj
    ·exact zG bV.out j hj
    ·exact zG bW.out j hj
    ·exact zG bX.out j hj
  ·have h5:=HF.out.ul
   have h6:=zC4 d.rd (tT d.t0).L.V
   have h7:=zA8 kt (tT d.t0) d.bl 1 (tT d.t0).L.ns
   have h8:=zA8 kt (tT d.t0) d.bl 2 (tT d.t0).L.ns
   have h9:=HT.out.v16
   simp only[List.mem_cons,List.not_mem_nil,or_false]at hx
   rcases hx with rfl|rfl|rfl|rfl|rfl
   ·exact h5
   ·show (abF d.rd (tT d.t0).L.V).length≤_;omega
   ·exact cT.2
   ·show (fsF kt (tT d.t0) d.bl 1 (tT d.t0).L.ns).length≤_;omega
   ·show (fsF kt (tT d.t0) d.bl 2 (tT d.t0).L.ns).length≤_;omega
 obtain⟨l1,cN⟩:∃x,d.ul=x:=⟨_,rfl⟩
 obtain⟨l2,cO⟩:∃x,abF d.rd (tT d.t0).L.V=x:=⟨_,rfl⟩
 obtain⟨l3,cP⟩:∃x,baF kt (tT d.t0) d.bl (tT d.t0).L.ns=x:=⟨_,rfl⟩
 obtain⟨l4,cQ⟩:∃x,fsF kt (tT d.t0) d.bl 1 (tT d.t0).L.ns=x:=⟨_,rfl⟩
 obtain⟨l5,cR⟩:∃x,fsF kt (tT d.t0) d.bl 2 (tT d.t0).L.ns=x:=⟨_,rfl⟩
 rw[cN,cO,cP,cQ,cR]at aV
 have U:Hid (∀(m:Nat) (L:List (Value×Value×List Nat)) (X:World),RpI kt base h lost ds m Z J.heap.size r q (zAc (.slice s1 n1 k1) (.slice s2 n2 k2) (.slice R n3 Q) (.slice G n4 F) (.slice D n5 A)) (zAc (.slice t1 m1 j1) (.slice t2 m2 j2) (.slice t3 m3 j3) (.slice t4 m4 j4) (.slice t5 m5 N)) L w X→X.cell? ⟨r,0,none⟩=some (.slice s1 n1 k1)∧X.cell? ⟨r,1,none⟩=some (.slice s2 n2 k2)∧X.cell? ⟨r,2,none⟩=some (.slice R n3 Q)∧X.cell? ⟨r,3,none⟩=some (.slice G n4 F)∧X.cell? ⟨r,4,none⟩=some (.slice D n5 A)∧X.cell? ⟨q,0,none⟩=some (.slice t1 m1 j1)∧X.cell? ⟨q,1,none⟩=some (.slice t2 m2 j2)∧X.cell? ⟨q,2,none⟩=some (.slice t3 m3 j3)∧X.cell? ⟨q,3,none⟩=some (.slice t4 m4 j4)∧X.cell? ⟨q,4,none⟩=some (.slice t5 m5 N)):=fun m L X hX=>⟨cell_of_row _ _ _ _ 133 _ hX.r,cell_of_row _ _ _ _ 133 _ hX.r,cell_of_row _ _ _ _ 133 _ hX.r,cell_of_row _ _ _ _ 133 _ hX.r,cell_of_row _ _ _ _ 133 _ hX.r,cell_of_row _ _ _ _ 133 _ hX.q,cell_of_row _ _ _ _ 133 _ hX.q,cell_of_row _ _ _ _ 133 _ hX.q,cell_of_row _ _ _ _ 133 _ hX.q,cell_of_row _ _ _ _ 133 _ hX.q⟩
 unfold zAc at aN
 unfold zAc
 have cD:Hid _:=aV.out.same
 rw[←aN]at aV cD
 have fT:Hid (W2.heap.size=q):=hq
 have gL:Hid _:=aN
 obtain⟨y0,y1,y2,y3,y4,z0,z1,z2,z3,z4⟩:=U.out _ _ _ aV.out
 clear bG p1 p2 p3 p4 p5 bF cV a8 cT x1 c0 cN cO cP cQ cR aS hq aN
 go_wp2_with fail
 refine Calls.mono cD.out ?_
 rintro e Y0 ⟨rfl,b4⟩
 rw[fT.out]
 obtain⟨d2,d7,dC,dH,dM,dR,dW,f1,f6,fB⟩:=U.out _ _ Y0 b4
 have bY:Hid _:=b4
 have fN:Hid (∀X:World,RpI kt base h lost ds m Z J.heap.size r q (zAc (.slice s1 n1 k1) (.slice s2 n2 k2) (.slice R n3 Q) (.slice G n4 F) (.slice D n5 A)) (zAc (.slice t1 m1 j1) (.slice t2 m2 j2) (.slice t3 m3 j3) (.slice t4 m4 j4) (.slice t5 m5 N)) [(.slice s1 n1 k1,.slice t1 m1 j1,l1),(.slice s2 n2 k2,.slice t2 m2 j2,l2),(.slice R n3 Q,.slice t3 m3 j3,l3),(.slice G n4 F,.slice t4 m4 j4,l4),(.slice D n5 A,.slice t5 m5 N,l5)] w X→Calls Tryz.prog 64 #[.pointer (some ⟨h,1,none⟩),(.slice s1 n1 k1)] X fun e w'=>e=.returned (.tuple #[])∧RpI kt base h lost ds (m+1) Z J.heap.size r q (zAc (.slice s1 n1 k1) (.slice s2 n2 k2) (.slice R n3 Q) (.slice G n4 F) (.slice D n5 A)) (zAc (.slice t1 m1 j1) (.slice t2 m2 j2) (.slice t3 m3 j3) (.slice t4 m4 j4) (.slice t5 m5 N)) [(.slice s2 n2 k2,.slice t2 m2 j2,l2),(.slice R n3 Q,.slice t3 m3 j3,l3),(.slice G n4 F,.slice t4 m4 j4,l4),(.slice D n5 A,.slice t5 m5 N,l5)] w w'):=fun X hX=>hX.keep (by omega)
 clear b4 y0 y1 y2 y3 y4 z0 z1 z2 z3 z4
 go_wp2_with fail
 go_region_held3 (fun w2=>w2.cell? ⟨r,0,none⟩=some (.slice s1 n1 k1)) (go_keep) ((go_at_call 64;refine Calls.mono (fN.out _ (by first|exact bY.out|exact bY.out.drew)) ?_;rintro e V0 ⟨rfl,bB⟩;obtain⟨y0_0v,y1_0v,y2_0v,y3_0v,y4_0v,z0_0v,z1_0v,z2_0v,z3_0v,z4_0v⟩:=U.out _ _ V0 bB))
 clear d2 d7 dC dH dM dR dW f1 f6 fB
 have fW:Hid _:=bB.same
 clear bB
 go_wp2_with fail
 refine Calls.mono fW.out ?_
 rintro e Y1 ⟨rfl,b5⟩
 obtain⟨d3,d8,dD,dI,dN,dS,dX,f2,f7,fD⟩:=U.out _ _ Y1 b5
 have bZ:Hid _:=b5
 have fO:Hid (∀X:World,RpI kt base h lost ds (m+1) Z J.heap.size r q (zAc (.slice s1 n1 k1) (.slice s2 n2 k2) (.slice R n3 Q) (.slice G n4 F) (.slice D n5 A)) (zAc (.slice t1 m1 j1) (.slice t2 m2 j2) (.slice t3 m3 j3) (.slice t4 m4 j4) (.slice t5 m5 N)) [(.slice s2 n2 k2,.slice t2 m2 j2,l2),(.slice R n3 Q,.slice t3 m3 j3,l3),(.slice G n4 F,.slice t4 m4 j4,l4),(.slice D n5 A,.slice t5 m5 N,l5)] w X→Calls Tryz.prog 64 #[.pointer (some ⟨h,1,none⟩),(.slice s2 n2 k2)] X fun e w'=>e=.returned (.tuple #[])∧RpI kt base h lost ds (m+2) Z J.heap.size r q (zAc (.slice s1 n1 k1) (.slice s2 n2 k2) (.slice R n3 Q) (.slice G n4 F) (.slice D n5 A)) (zAc (.slice t1 m1 j1) (.slice t2 m2 j2) (.slice t3 m3 j3) (.slice t4 m4 j4) (.slice t5 m5 N)) [(.slice R n3 Q,.slice t3 m3 j3,l3),(.slice G n4 F,.slice t4 m4 j4,l4),(.slice D n5 A,.slice t5 m5 N,l5)] w w'):=fun X hX=>hX.keep (by omega)
 clear b5
 go_wp2_with fail
 go_region_held3 (fun w2=>w2.cell? ⟨r,1,none⟩=some (.slice s2 n2 k2)) (go_keep) ((go_at_call 64;refine Calls.mono (fO.out _ (by first|exact bZ.out|exact bZ.out.drew)) ?_;rintro e V1 ⟨rfl,bC⟩;obtain⟨y0_1v,y1_1v,y2_1v,y3_1v,y4_1v,z0_1v,z1_1v,z2_1v,z3_1v,z4_1v⟩:=U.out _ _ V1 bC))
 clear d3 d8 dD dI dN dS dX f2 f7 fD
 have fX:Hid _:=bC.same
 clear bC
 go_wp2_with fail
 refine Calls.mono fX.out ?_
 rintro e Y2 ⟨rfl,b6⟩
 obtain⟨d4,d9,dE,dJ,dO,dT,dY,f3,f8,fE⟩:=U.out _ _ Y2 b6
 have c8:Hid _:=b6
 have fP:Hid (∀X:World,RpI kt base h lost ds (m+2) Z J.heap.size r q (zAc (.slice s1 n1 k1) (.slice s2 n2 k2) (.slice R n3 Q) (.slice G n4 F) (.slice D n5 A)) (zAc (.slice t1 m1 j1) (.slice t2 m2 j2) (.slice t3 m3 j3) (.slice t4 m4 j4) (.slice t5 m5 N)) [(.slice R n3 Q,.slice t3 m3 j3,l3),(.slice G n4 F,.slice t4 m4 j4,l4),(.slice D n5 A,.slice t5 m5 N,l5)] w X→Calls Tryz.prog 64 #[.pointer (some ⟨h,1,none⟩),(.slice R n3 Q)] X fun e w'=>e=.returned (.tuple #[])∧RpI kt base h lost ds (m+3) Z J.heap.size r q (zAc (.slice s1 n1 k1) (.slice s2 n2 k2) (.slice R n3 Q) (.slice G n4 F) (.slice D n5 A)) (zAc (.slice t1 m1 j1) (.slice t2 m2 j2) (.slice t3 m3 j3) (.slice t4 m4 j4) (.slice t5 m5 N)) [(.slice G n4 F,.slice t4 m4 j4,l4),(.slice D n5 A,.slice t5 m5 N,l5)] w w'):=fun X hX=>hX.keep (by omega)
 clear b6
 go_wp2_with fail
 go_region_held3 (fun w2=>w2.cell? ⟨r,2,none⟩=some (.slice R n3 Q)) (go_keep) ((go_at_call 64;refine Calls.mono (fP.out _ (by first|exact c8.out|exact c8.out.drew)) ?_;rintro e V2 ⟨rfl,aL⟩;obtain⟨y0_2v,y1_2v,y2_2v,y3_2v,y4_2v,z0_2v,z1_2v,z2_2v,z3_2v,z4_2v⟩:=U.out _ _ V2 aL))
 clear d4 d9 dE dJ dO dT dY f3 f8 fE
 have fY:Hid _:=aL.same
 clear aL
 go_wp2_with fail
 refine Calls.mono fY.out ?_
 rintro e Y3 ⟨rfl,b7⟩
 obtain⟨d5,dA,dF,dK,dP,dU,dZ,f4,f9,fF⟩:=U.out _ _ Y3 b7
 have c9:Hid _:=b7
 have fQ:Hid (∀X:World,RpI kt base h lost ds (m+3) Z J.heap.size r q (zAc (.slice s1 n1 k1) (.slice s2 n2 k2) (.slice R n3 Q) (.slice G n4 F) (.slice D n5 A)) (zAc (.slice t1 m1 j1) (.slice t2 m2 j2) (.slice t3 m3 j3) (.slice t4 m4 j4) (.slice t5 m5 N)) [(.slice G n4 F,.slice t4 m4 j4,l4),(.slice D n5 A,.slice t5 m5 N,l5)] w X→Calls Tryz.prog 64 #[.pointer (some ⟨h,1,none⟩),(.slice G n4 F)] X fun e w'=>e=.returned (.tuple #[])∧RpI kt base h lost ds (m+4) Z J.heap.size r q (zAc (.slice s1 n1 k1) (.slice s2 n2 k2) (.slice R n3 Q) (.slice G n4 F) (.slice D n5 A)) (zAc (.slice t1 m1 j1) (.slice t2 m2 j2) (.slice t3 m3 j3) (.slice t4 m4 j4) (.slice t5 m5 N)) [(.slice D n5 A,.slice t5 m5 N,l5)] w w'):=fun X hX=>hX.keep (by omega)
 clear b7
 go_wp2_with fail
 go_region_held3 (fun w2=>w2.cell? ⟨r,3,none⟩=some (.slice G n4 F)) (go_keep) ((go_at_call 64;refine Calls.mono (fQ.out _ (by first|exact c9.out|exact c9.out.drew)) ?_;rintro e V3 ⟨rfl,bD⟩;obtain⟨y0_3v,y1_3v,y2_3v,y3_3v,y4_3v,z0_3v,z1_3v,z2_3v,z3_3v,z4_3v⟩:=U.out _ _ V3 bD))
 clear d5 dA dF dK dP dU dZ f4 f9 fF
 have fZ:Hid _:=bD.same
 clear bD
 go_wp2_with fail
 refine Calls.mono fZ.out ?_
 rintro e Y4 ⟨rfl,b9⟩
 obtain⟨d6,dB,dG,dL,dQ,dV,f0,f5,fA,fG⟩:=U.out _ _ Y4 b9
 have cA:Hid _:=b9
 have fS:Hid (∀X:World,RpI kt base h lost ds (m+4) Z J.heap.size r q (zAc (.slice s1 n1 k1) (.slice s2 n2 k2) (.slice R n3 Q) (.slice G n4 F) (.slice D n5 A)) (zAc (.slice t1 m1 j1) (.slice t2 m2 j2) (.slice t3 m3 j3) (.slice t4 m4 j4) (.slice t5 m5 N)) [(.slice D n5 A,.slice t5 m5 N,l5)] w X→Calls Tryz.prog 64 #[.pointer (some ⟨h,1,none⟩),(.slice D n5 A)] X fun e w'=>e=.returned (.tuple #[])∧RpI kt base h lost ds (m+5) Z J.heap.size r q (zAc (.slice s1 n1 k1) (.slice s2 n2 k2) (.slice R n3 Q) (.slice G n4 F) (.slice D n5 A)) (zAc (.slice t1 m1 j1) (.slice t2 m2 j2) (.slice t3 m3 j3) (.slice t4 m4 j4) (.slice t5 m5 N)) [] w w'):=fun X hX=>hX.keep (by omega)
 clear b9
 go_wp2_with fail
 go_region_held3 (fun w2=>w2.cell? ⟨r,4,none⟩=some (.slice D n5 A)) (go_keep) ((go_at_call 64;refine Calls.mono (fS.out _ (by first|exact cA.out|exact cA.out.drew)) ?_;rintro e V4 ⟨rfl,bE⟩;obtain⟨y0_4v,y1_4v,y2_4v,y3_4v,y4_4v,z0_4v,z1_4v,z2_4v,z3_4v,z4_4v⟩:=U.out _ _ V4 bE))
 clear d6 dB dG dL dQ dV f0 f5 fA fG
 have bS:Hid _:=bE.fin
 clear bE
 go_wp2_with fail
 go_ret
 exact⟨rfl,bS.out⟩
end Go.Proofs.YtlopecgkiikdhaaGreatDoor
