import Derived.Test.YtlopecgkiikdhaaGreatDoorX41
import Derived.Test.YtlopecgkiikdhaaGreatDoorX43
namespace Go.Proofs.YtlopecgkiikdhaaGreatDoor
open Go.RowKit
set_option maxRecDepth 100000
set_option maxHeartbeats 4000000
def drA (d:Dr):Value:=.agg #[.pointer (some ⟨d.v,0,none⟩),.pointer (some ⟨d.y,0,none⟩)]
def drC (d:Dr):Array Value:= #[.pointer (some ⟨d.v,0,none⟩),.pointer (some ⟨d.y,0,none⟩)]
theorem HSt.more {kt:Nat→Int}{base h:Nat}{lost:Bool}{ds:List Dr}{m j:Nat}{w w':World}(H:HSt kt base h lost ds m w w')(F:m≤j):HSt kt base h lost ds j w w':=by
 obtain⟨bk,u,A,D⟩:=H
 exact⟨bk,u,A.more F,D⟩
theorem HSt.pre {kt:Nat→Int}{base h:Nat}{lost:Bool}{ds:List Dr}{m:Nat}{w W w':World}(H:HSt kt base h lost ds m W w')(hb:Below base w W):HSt kt base h lost ds m w w':=by
 obtain⟨bk,j,u,A⟩:=H
 exact⟨bk,j,u,hb.trans A⟩
theorem HSt.low {kt:Nat→Int}{base h:Nat}{lost:Bool}{ds:List Dr}{m:Nat}{w W w':World}(H:HSt kt base h lost ds m w W)(hb:Below W.heap.size W w'):HSt kt base h lost ds m w w':=by
 obtain⟨bk,j,u,A⟩:=H
 exact⟨bk,j.low hb,u,A.trans (hb.mono j.bw)⟩
section
variable {kt:Nat→Int} {base h:Nat} {lost:Bool} {ds:List Dr} {bk:Bk} {w w':World} {d:Dr}
theorem HK.worked (H:HK kt base h lost ds bk noZ w)(hd:d∈ds)(F:Fr (fun j=>j=d.q∨j=d.f∨j=d.v) w w'):Below base w w'∧∀(A:Nat) (row:Array Value),w.heap[A]? =some (.cells row 53 (0,0))→w'.heap[A]? =some (.cells row 53 (0,0)):=by
 have D:=H.here d hd
 obtain⟨dn,U,N,G,_⟩:=D.vs
 refine⟨Fr.low F (fun j J=> ?_) H.bw,fun A row u=> ?_⟩
 ·obtain⟨_,l1,Q,R,_⟩:=D.lo
  rcases J with e|e|e<;>rw[e]<;>assumption
 ·rw[F.old A (Array.getElem?_eq_some_iff.1 u).1 (fun e=>by
   rcases e with e|e|e
   ·exact zE u G.blR (by decide) e
   ·exact zE u G.fiR (by decide) e
   ·exact zE u D.vl (by decide) e)]
  exact u
theorem HK.workK (H:HK kt base h lost ds bk noZ w)(hd:d∈ds)(G:Fr (fun j=>j=d.q∨j=d.f∨j=d.v) w w')(A:VK kt d.B d.v d.k d.g d.p d.q d.f (tT d.t0) d.un d.ul d.rd d.bl w'):HK kt base h lost ds bk noZ w':=by
 obtain⟨D,dn,N,F,J⟩:=A
 exact H.work hd G D ⟨dn,N,F,J,fun j u=>u.elim⟩ (fun j u=>u.elim)
end
theorem zOw (kt:Nat→Int)(base h:Nat)(lost:Bool)(ds:List Dr)(d:Dr)(m:Nat)(bk:Bk)(w:World)(H:HK kt base h lost ds bk noZ w)(hd:d∈ds)(hm:bk.le m):
 Calls Tryz.prog 14 #[.pointer (some ⟨h,0,none⟩),drA d,.int .i64 0] w fun e w'=>e=.returned (.bool true)∧HSt kt base h lost ds (m+5) w w':=by
 obtain⟨W,hW⟩:∃W,w.alloc (.cells (drC d) 53)=W:=⟨_,rfl⟩
 have a5:Below w.heap.size w W:=by rw[←hW];exact (Below.refl _ _).alloc (Nat.le_refl _) _
 have A:W.heap[w.heap.size]? =some (.cells (drC d) 53 (0,0)):=by rw[←hW];exact heap_alloc_new _ _
 have H1:=H.low a5
 obtain⟨db,R⟩:∃x,w.heap.size=x:=⟨_,rfl⟩
 rw[R]at A
 have HH:Hid _:=H
 have aH:Hid _:=a5
 have aK:Hid _:=A
 have a8:Hid _:=H1
 have HF:Hid _:=H.fit d hd
 have aT:Hid (w.heap.size=db):=R
 have c0:W.cell? ⟨db,0,none⟩=some (.pointer (some ⟨d.v,0,none⟩)):=cell_of_row _ _ _ _ 53 _ A
 have c1:W.cell? ⟨db,1,none⟩=some (.pointer (some ⟨d.y,0,none⟩)):=cell_of_row _ _ _ _ 53 _ A
 unfold drC at hW
 unfold drA
 have HV:Hid (Calls Tryz.prog 25 #[.pointer (some ⟨d.v,0,none⟩)] W fun e w'=>e=.returned (.agg #[.int .i64 (tT d.t0).L.K,.int .i64 (tT d.t0).L.M,.int .i64 (tT d.t0).L.C,.int .i64 (tT d.t0).L.V])∧VK kt d.B d.v d.k d.g d.p d.q d.f (tT d.t0) d.un d.ul d.rd d.bl w'∧Fr (fun j=>j=d.q∨j=d.f∨j=d.v) W w'):=zMr kt d.B d.v d.k d.g d.p d.q d.f (tT d.t0) d.un d.ul d.rd d.bl W (H1.here d hd).vk
 clear H a5 A H1
 go_enter Tryz.func14,Tryz.ntmps14
 go_wp2_with fail
 refine Calls.mono HV.out ?_
 rintro e W1 ⟨rfl,aA,hF⟩
 have a2:=a8.out.workK hd hF aA
 obtain⟨Q,D⟩:=a8.out.worked hd hF
 have a6:=D db _ aK.out
 obtain⟨K,hK⟩:∃x,((tT d.t0).L.K:Int)=x:=⟨_,rfl⟩
 obtain⟨M,hM⟩:∃x,((tT d.t0).L.M:Int)=x:=⟨_,rfl⟩
 obtain⟨C,hC⟩:∃x,((tT d.t0).L.C:Int)=x:=⟨_,rfl⟩
 obtain⟨V,hV⟩:∃x,((tT d.t0).L.V:Int)=x:=⟨_,rfl⟩
 obtain⟨u,a9⟩:∃X,W1.alloc (.cells #[.int .i64 K,.int .i64 M,.int .i64 C,.int .i64 V] 81)=X:=⟨_,rfl⟩
 obtain⟨p,hp⟩:∃x,W1.heap.size=x:=⟨_,rfl⟩
 have N:Below W1.heap.size W1 u:=by rw[←a9];exact (Below.refl _ _).alloc (Nat.le_refl _) _
 have a7:u.heap[p]? =some (.cells #[.int .i64 K,.int .i64 M,.int .i64 C,.int .i64 V] 81 (0,0)):=by rw[←a9,←hp];exact heap_alloc_new _ _
 have F:u.heap[db]? =some (.cells (drC d) 53 (0,0)):=(N.block _ (Array.getElem?_eq_some_iff.1 a6).1).trans a6
 have U:Hid _:=a2.low N
 have aE:Hid (Below base w u):=((aH.out.mono HH.out.bw).trans Q).trans (N.mono a2.bw)
 have aI:Hid (∀X:World,Below u.heap.size u X→Calls Tryz.prog 27 #[.pointer (some ⟨d.y,0,none⟩)] X fun e w'=>e=.returned (.agg #[.int .i64 K,.int .i64 M,.int .i64 C,.int .i64 V])∧Below X.heap.size X w'):=fun X hX=>by
  rw[←hK,←hM,←hC,←hV]
  exact zMc kt d.C d.y d.vH d.vU d.hp d.ul d.t0 X (((U.out.low hX).here d hd).rb (HF.out)) HF.out.set
 have aJ:Hid (∀X:World,Calls Tryz.prog 26 #[.agg #[.int .i64 K,.int .i64 M,.int .i64 C,.int .i64 V],.agg #[.int .i64 K,.int .i64 M,.int .i64 C,.int .i64 V]] X fun e w'=>e=.returned (.bool true)∧Below X.heap.size X w'):=fun X=>zNl K M C V X
 have Z:Hid (∀X:World,Below u.heap.size u X→X.cell? ⟨p,0,none⟩=some (.int .i64 K)∧X.cell? ⟨p,1,none⟩=some (.int .i64 M)∧X.cell? ⟨p,2,none⟩=some (.int .i64 C)∧X.cell? ⟨p,3,none⟩=some (.int .i64 V)∧X.cell? ⟨db,1,none⟩=some (.pointer (some ⟨d.y,0,none⟩))):=fun X hX=>by
  have h1:=(hX.block _ (Array.getElem?_eq_some_iff.1 a7).1).trans a7
  have h2:=(hX.block _ (Array.getElem?_eq_some_iff.1 F).1).trans F
  exact⟨cell_of_row _ _ _ _ 81 _ h1,cell_of_row _ _ _ _ 81 _ h1,cell_of_row _ _ _ _ 81 _ h1,cell_of_row _ _ _ _ 81 _ h1,cell_of_row _ _ _ _ 53 _ h2⟩
 obtain⟨x0,x1,x2,x3,x4⟩:=Z.out u (Below.refl _ _)
 rw[hK,hM,hC,hV]
 clear aA hF a2 Q D a6 N a7 F
 go_wp2_with fail
 go_region_held3 (fun X=>X.cell? ⟨p,0,none⟩=some (.int .i64 K)∧X.cell? ⟨p,1,none⟩=some (.int .i64 M)∧X.cell? ⟨p,2,none⟩=some (.int .i64 C)∧X.cell? ⟨p,3,none⟩=some (.int .i64 V)∧X.cell? ⟨db,1,none⟩=some (.pointer (some ⟨d.y,0,none⟩))) (go_keep) (first|(go_at_call 27;refine Calls.mono (aI.out _ (by first|exact Below.refl _ _|exact (Below.refl _ _).drew)) ?_;rintro e w7 ⟨rfl,a4⟩;have G:Below u.heap.size u w7:=(by first|exact a4|exact ((Below.refl _ _).drew).trans a4);obtain⟨q0,q1,q2,q3,q4⟩:=Z.out w7 G)|(go_at_call 26;refine Calls.mono (aJ.out _) ?_;rintro e w8 ⟨rfl,hb8⟩;have J:Below u.heap.size u w8:=(G.trans (hb8.mono G.size));obtain⟨r0,r1,r2,r3,r4⟩:=Z.out w8 J))
 have aF:Hid (HK kt base h lost ds bk noZ w8):=U.out.low J
 have aG:Hid (Below base w w8):=aE.out.trans (J.mono U.out.bw)
 clear a4 G hb8 J
 go_wp2_with fail
 go_ret
 exact⟨rfl,bk,aF.out,hm.more (by omega),aG.out⟩
theorem zOx (kt:Nat→Int)(base h:Nat)(lost:Bool)(ds:List Dr)(d:Dr)(m:Nat)(bk:Bk)(w:World)(H:HK kt base h lost ds bk noZ w)(hd:d∈ds)(hm:bk.le m):
 Calls Tryz.prog 14 #[.pointer (some ⟨h,0,none⟩),drA d,.int .i64 1] w fun e w'=>e=.returned (.bool true)∧HSt kt base h lost ds (m+5) w w':=by
 obtain⟨W,hW⟩:∃W,w.alloc (.cells (drC d) 53)=W:=⟨_,rfl⟩
 have J:Below w.heap.size w W:=by rw[←hW];exact (Below.refl _ _).alloc (Nat.le_refl _) _
 have u:W.heap[w.heap.size]? =some (.cells (drC d) 53 (0,0)):=by rw[←hW];exact heap_alloc_new _ _
 have Z:=H.low J
 obtain⟨R,F⟩:∃x,w.heap.size=x:=⟨_,rfl⟩
 rw[F]at u
 have HH:Hid _:=H
 have a2:Hid _:=J
 have a6:Hid _:=u
 have N:Hid _:=Z
 have HF:Hid _:=H.fit d hd
 have aA:Hid (w.heap.size=R):=F
 have c0:W.cell? ⟨R,0,none⟩=some (.pointer (some ⟨d.v,0,none⟩)):=cell_of_row _ _ _ _ 53 _ u
 have c1:W.cell? ⟨R,1,none⟩=some (.pointer (some ⟨d.y,0,none⟩)):=cell_of_row _ _ _ _ 53 _ u
 unfold drC at hW
 unfold drA
 have HV:Hid (Calls Tryz.prog 28 #[.pointer (some ⟨d.v,0,none⟩)] W fun e w'=>e=.returned (.string (tT d.t0).root)∧VK kt d.B d.v d.k d.g d.p d.q d.f (tT d.t0) d.un d.ul d.rd d.bl w'∧Fr (fun j=>j=d.q∨j=d.f∨j=d.v) W w'):=zPY kt d.B d.v d.k d.g d.p d.q d.f (tT d.t0) d.un d.ul d.rd d.bl W (Z.here d hd).vk
 clear H J u Z
 go_enter Tryz.func14,Tryz.ntmps14
 go_wp2_with fail
 refine Calls.mono HV.out ?_
 rintro e Q ⟨rfl,X,hF⟩
 have G:=N.out.workK hd hF X
 obtain⟨D,A⟩:=N.out.worked hd hF
 have U:=A R _ a6.out
 have x1:Q.cell? ⟨R,1,none⟩=some (.pointer (some ⟨d.y,0,none⟩)):=cell_of_row _ _ _ _ 53 _ U
 have a5:Hid (Calls Tryz.prog 29 #[.pointer (some ⟨d.y,0,none⟩)] Q fun e w'=>e=.returned (.string (tT d.t0).root)∧w'=Q):=zPJ kt d.C d.y d.vH d.vU d.hp d.ul d.t0 Q ((G.here d hd).rb HF.out) HF.out.set
 have a4:Hid _:=G
 have a1:Hid (Below base w Q):=(a2.out.mono HH.out.bw).trans D
 clear X hF G D A U
 go_wp2_with fail
 refine Calls.mono a5.out ?_
 rintro e W2 ⟨rfl,rfl⟩
 go_wp2_with fail
 go_ret
 exact⟨rfl,bk,a4.out,hm.more (by omega),a1.out⟩
theorem zOy (kt:Nat→Int)(base h:Nat)(lost:Bool)(ds:List Dr)(d:Dr)(m:Nat)(bk:Bk)(w:World)(H:HK kt base h lost ds bk noZ w)(hd:d∈ds)(hm:bk.le m)(bS:m≤10000000000):
 Calls Tryz.prog 14 #[.pointer (some ⟨h,0,none⟩),drA d,.int .i64 2] w fun e w'=>e=.returned (.bool true)∧HSt kt base h lost ds (m+5) w w':=by
 obtain⟨W,hW⟩:∃W,w.alloc (.cells (drC d) 53)=W:=⟨_,rfl⟩
 have a9:Below w.heap.size w W:=by rw[←hW];exact (Below.refl _ _).alloc (Nat.le_refl _) _
 have G:W.heap[w.heap.size]? =some (.cells (drC d) 53 (0,0)):=by rw[←hW];exact heap_alloc_new _ _
 have H1:=H.low a9
 obtain⟨db,a4⟩:∃x,w.heap.size=x:=⟨_,rfl⟩
 rw[a4]at G
 have HH:Hid _:=H
 have aV:Hid _:=a9
 have b3:Hid _:=G
 have R:Hid _:=H1
 have HF:Hid _:=H.fit d hd
 have bE:Hid (w.heap.size=db):=a4
 have c0:W.cell? ⟨db,0,none⟩=some (.pointer (some ⟨d.v,0,none⟩)):=cell_of_row _ _ _ _ 53 _ G
 have c1:W.cell? ⟨db,1,none⟩=some (.pointer (some ⟨d.y,0,none⟩)):=cell_of_row _ _ _ _ 53 _ G
 unfold drC at hW
 unfold drA
 obtain⟨hT,aA⟩:=HF.out.told
 have aE:Hid _:=aA
 have HV:Hid (Calls Tryz.prog 30 #[.pointer (some ⟨d.v,0,none⟩)] W fun e w'=>∃u,e=.returned u∧VK kt d.B d.v d.k d.g d.p d.q d.f (tT d.t0) d.un d.ul d.rd d.bl w'∧Fr (fun j=>j=d.q∨j=d.f∨j=d.v) W w'∧w'.ownsRow W.heap.size 131 2 u (tT d.t0).L.es.length (enV (tT d.t0).L.es)):=zKL kt d.B d.v d.k d.g d.p d.q d.f (tT d.t0) d.un d.ul d.rd d.bl W (H1.here d hd).vk aA.1
 clear H a9 G H1 hT aA
 go_enter Tryz.func14,Tryz.ntmps14
 go_wp2_with fail
 refine Calls.mono HV.out ?_
 rintro e Q ⟨u,rfl,aN,hF,a1⟩
 obtain⟨a2,N⟩:=R.out.worked hd hF
 have aL:=N db _ b3.out
 have x1:Q.cell? ⟨db,1,none⟩=some (.pointer (some ⟨d.y,0,none⟩)):=cell_of_row _ _ _ _ 53 _ aL
 obtain⟨Z,hZ⟩:∃Z:Nat→Prop,Z=fun j=>u.ownBlock=some j:=⟨_,rfl⟩
 have a8:HK kt base h lost ds bk Z Q:=by
  obtain⟨bA,dn,zs,bd,aI⟩:=aN
  refine R.out.work hd hF bA ⟨dn,zs,bd,aI,fun j hj ho=> ?_⟩ (fun j hj=> ?_)
  ·rw[hZ]at hj
   obtain⟨c1,e1⟩:=aI.out3 ho
   obtain⟨c2,e2⟩:=zB a1 j hj
   exact zE e1 e2 (by decide) rfl
  ·rw[hZ]at hj;exact zK a1 j hj
 have b0:Hid (Calls Tryz.prog 32 #[.pointer (some ⟨d.y,0,none⟩)] Q fun e w'=>∃u,e=.returned u∧w'.ownsRow Q.heap.size 131 2 u (tT d.t0).L.es.length (enV (tT d.t0).L.es)∧Below Q.heap.size Q w'):=zJ3 kt d.C d.y d.vH d.vU d.hp d.ul d.t0 Q ((a8.here d hd).rb HF.out) HF.out.set
 have aC:Hid _:=a8
 have aF:Hid (Q.ownsRow W.heap.size 131 2 u (tT d.t0).L.es.length (enV (tT d.t0).L.es)):=a1
 have aR:Hid (Below base w Q):=(aV.out.mono HH.out.bw).trans a2
 have HZ:Hid _:=hZ
 clear aN hF a8 a2 N aL a1 hZ
 go_wp2_with fail
 refine Calls.mono b0.out ?_
 rintro e W2 ⟨vr,rfl,aO,U⟩
 have D:Hid (W2.ownsRow W.heap.size 131 2 u (tT d.t0).L.es.length (enV (tT d.t0).L.es)):=zD aF.out (fun q hq=>U.block q (zG aF.out q hq))
 have b2:Hid (Calls Tryz.prog 31 #[u,vr] W2 fun e w'=>e=.returned (.bool true)∧Below W2.heap.size W2 w'):=zNj (tT d.t0).L.es _ rfl W.heap.size Q.heap.size u vr W2 (by have:=aE.out.1;omega) D.out aO
 have aD:Hid _:=aC.out.low U
 have aS:Hid (Below base w W2):=aR.out.trans (U.mono aC.out.bw)
 clear U aO
 go_wp2_with fail
 refine Calls.mono b2.out ?_
 rintro e W3 ⟨rfl,X⟩
 have F:=aD.out.low X
 have A:=zD D.out (fun q hq=>X.block q (zG D.out q hq))
 obtain⟨l0,aK,a6⟩:=F.book
 have J:base≤W.heap.size:=R.out.bw
 have aZ:Hid (Calls Tryz.prog 33 #[.pointer (some ⟨h,1,none⟩),u] W3 fun e w'=>e=.returned (.tuple #[])∧zJA base h l0 (.bool lost) bk u W3 w'):=keepE base h l0 (.bool lost) bk u (tT d.t0).L.es.length (enV (tT d.t0).L.es) W3 aK (zAJ A J) (fun q hq hh=>by
  obtain⟨l1,b7,_⟩:=R.out.book
  have h1:=(b7.lt hh).2
  have h2:=zK A q hq
  omega) F.bw F.lo (by have:=aE.out.1;omega) (Nat.le_trans hm.1 (by omega)) (Nat.le_trans hm.2.2.2.2 (by omega))
 have aX:Hid _:=F
 have b1:Hid (W3.ownsRow base 53 2 l0 ds.length (drV ds)):=a6
 have aG:Hid (W3.ownsRow W.heap.size 131 2 u (tT d.t0).L.es.length (enV (tT d.t0).L.es)):=A
 have aT:Hid (Below base w W3):=aS.out.trans (X.mono aD.out.bw)
 clear X F A aK a6 J
 go_wp2_with fail
 refine Calls.mono aZ.out ?_
 rintro e W4 ⟨rfl,hK⟩
 have aJ:Below base W3 W4:=by obtain⟨_,_,_,_,h4⟩:=hK;exact h4
 obtain⟨y,h5,_⟩:=aX.out.keepE b1.out hK (fun j hj=>⟨by rw[HZ.out];exact hj,by obtain⟨c,hc⟩:=zB aG.out j hj;exact⟨c,131,hc,by simp⟩⟩)
 have aY:Hid _:=h5
 have aU:Hid _:=aT.out.trans aJ
 clear hK aJ h5
 go_wp2_with fail
 go_ret
 exact⟨rfl,_,aY.out.mono (fun _ h=>h.elim),hm.oneE.more (by omega),aU.out⟩
theorem zOz (kt:Nat→Int)(base h:Nat)(lost:Bool)(ds:List Dr)(d:Dr)(m:Nat)(bk:Bk)(w:World)(H:HK kt base h lost ds bk noZ w)(hd:d∈ds)(hm:bk.le m)(N:m≤10000000000):
 Calls Tryz.prog 14 #[.pointer (some ⟨h,0,none⟩),drA d,.int .i64 3] w fun e w'=>e=.returned (.bool true)∧HSt kt base h lost ds (m+5) w w':=by
 obtain⟨W,J⟩:∃W,w.alloc (.cells (drC d) 53)=W:=⟨_,rfl⟩
 have A:Below w.heap.size w W:=by rw[←J];exact (Below.refl _ _).alloc (Nat.le_refl _) _
 have j:W.heap[w.heap.size]? =some (.cells (drC d) 53 (0,0)):=by rw[←J];exact heap_alloc_new _ _
 have D:=H.low A
 obtain⟨G,u⟩:∃x,w.heap.size=x:=⟨_,rfl⟩
 rw[u]at j
 have X:Hid _:=H
 have F:Hid _:=A
 have a2:Hid _:=j
 have Z:Hid _:=D
 have HF:Hid _:=H.fit d hd
 have R:Hid (w.heap.size=G):=u
 have c0:W.cell? ⟨G,0,none⟩=some (.pointer (some ⟨d.v,0,none⟩)):=cell_of_row _ _ _ _ 53 _ j
 have c1:W.cell? ⟨G,1,none⟩=some (.pointer (some ⟨d.y,0,none⟩)):=cell_of_row _ _ _ _ 53 _ j
 unfold drC at J
 unfold drA
 have HV:Hid (Calls Tryz.prog 34 #[.pointer (some ⟨h,0,none⟩),.agg #[.pointer (some ⟨d.v,0,none⟩),.pointer (some ⟨d.y,0,none⟩)]] W fun e w'=>e=.returned (.bool true)∧HSt kt base h lost ds (m+5) W w'):=zLn kt base h lost ds d m bk W D hd hm N
 clear H A j D
 go_enter Tryz.func14,Tryz.ntmps14
 go_wp2_with fail
 refine Calls.mono HV.out ?_
 rintro e W1 ⟨rfl,Q⟩
 have U:Hid _:=Q.pre (F.out.mono X.out.bw)
 clear Q
 go_wp2_with fail
 go_ret
 exact⟨rfl,U.out⟩
end Go.Proofs.YtlopecgkiikdhaaGreatDoor
namespace Go.Proofs.YtlopecgkiikdhaaGreatDoor
open Go.RowKit Go.Maps
set_option maxRecDepth 100000
set_option maxHeartbeats 4000000
set_option maxHeartbeats 400000 in
theorem zHr (c:Int)(n:Nat)(w:World)(G:0<n)(A:n≤1000)(D: -9223372036854775808≤c)(F:c≤9223372036854775807):
 Calls Tryz.prog 13 #[.int .i64 c,.int .i64 n] w fun e w'=>e=.returned (.int .i64 (pk c n))∧w'=w:=by
 by_cases u:c<0
 ·have E:Hid (-((c+1).tmod (n:Int))=((pk c n:Nat):Int)):=by
   show-((c+1).tmod (n:Int))=((pk c n:Nat):Int)
   unfold pk zOn
   rw[if_pos u,←Int.neg_tmod]
   obtain⟨a,j⟩:∃a:Nat,-(c+1)=(a:Int):=⟨(-(c+1)).toNat,by omega⟩
   rw[j,Int.toNat_natCast]
   exact Int.ofNat_tmod a n
  go_enter Tryz.func13,Tryz.ntmps13
  go_wp2
  go_ret
  rw[E.out]
  exact⟨rfl,rfl⟩
 ·have E:Hid (c%(n:Int)=((pk c n:Nat):Int)):=by
   show c%(n:Int)=((pk c n:Nat):Int)
   unfold pk zOn
   rw[if_neg u]
   obtain⟨a,j⟩:∃a:Nat,c=(a:Int):=⟨c.toNat,by omega⟩
   rw[j,Int.toNat_natCast]
   exact (Int.natCast_emod a n).symm
  go_enter Tryz.func13,Tryz.ntmps13
  go_wp2
  go_ret
  rw[E.out]
  exact⟨rfl,rfl⟩
end Go.Proofs.YtlopecgkiikdhaaGreatDoor
namespace Go.Proofs.YtlopecgkiikdhaaGreatDoor
open Go.RowKit
set_option maxRecDepth 100000
set_option maxHeartbeats 4000000
theorem zHK:∀(ds:List Dr) (i:Nat) (h:i<ds.length),(drV ds)[i*2]? =some (.pointer (some ⟨ds[i].v,0,none⟩))∧(drV ds)[i*2+1]? =some (.pointer (some ⟨ds[i].y,0,none⟩))
 |[],i,h=>by simp at h
 |d::r,0,_=>⟨rfl,rfl⟩
 |d::r,i+1,h=>by
  have j:=zHK r i (by simpa using h)
  have e:drV (d::r)=.pointer (some ⟨d.v,0,none⟩):: .pointer (some ⟨d.y,0,none⟩)::drV r:=rfl
  rw[e,show (i+1)*2=i*2+1+1 by omega,List.getElem?_cons_succ,List.getElem?_cons_succ,List.getElem?_cons_succ,List.getElem?_cons_succ]
  exact j
section
variable {kt:Nat→Int} {base h:Nat} {lost:Bool} {ds:List Dr} {m:Nat} {W w:World}
theorem HSt.list (H:HSt kt base h lost ds m W w):∃j cl,w.cell? ⟨h,0,none⟩=some (.slice j ds.length cl)∧∀i (hi:i<ds.length),∃g,j=some ⟨g,0,none⟩∧w.cell? ⟨g,i*2,none⟩=some (.pointer (some ⟨ds[i].v,0,none⟩))∧w.cell? ⟨g,i*2+1,none⟩=some (.pointer (some ⟨ds[i].y,0,none⟩)):=by
 obtain⟨bk,G,_⟩:=H
 obtain⟨X,N,u⟩:=G.book
 obtain⟨j,cl,rfl⟩:=zA u
 obtain⟨vT,vI,Z,vE,J,_⟩:=N.row
 refine⟨j,cl,cell_of_row _ _ _ _ 33 _ J,fun i hi=> ?_⟩
 rcases u.2 with ⟨_,R⟩|⟨g,A,cur,Q,hb,U,_⟩
 ·omega
 ·cases Q
  obtain⟨D,F⟩:=zHK ds i hi
  have c1:=u.cells (g:=g) rfl _ _ D
  have c2:=u.cells (g:=g) rfl _ _ F
  rw[Addr.add_lit,Nat.zero_add]at c1 c2
  exact⟨g,rfl,c1,c2⟩
theorem HSt.looks (H:HSt kt base h lost ds m W w)(U:m≤10000000000):Calls Tryz.prog 15 #[.pointer (some ⟨h,1,none⟩)] w fun e w'=>e=.returned (.bool true)∧HSt kt base h lost ds m W w':=by
 obtain⟨bk,j,J,N⟩:=H
 obtain⟨R,Q,X⟩:=j.book
 obtain⟨A,D,a3,F,G⟩:=J
 exact (zNi base h R (.bool lost) bk w Q (by omega) (by omega) (by omega) (by omega)).mono fun e w' u=>⟨u.1,bk,j.low u.2,⟨A,D,a3,F,G⟩,N.trans (u.2.mono j.bw)⟩
end
def zOi (kt:Nat→Int)(base h:Nat)(lost:Bool)(ds:List Dr)(kinds:Nat):Prop:=∀(k:Nat),k<kinds→∀d∈ds,∀(m:Nat) (bk:Bk) (X:World),HK kt base h lost ds bk noZ X→bk.le m→m≤10000000000→Calls Tryz.prog 14 #[.pointer (some ⟨h,0,none⟩),drA d,.int .i64 k] X fun e w'=>e=.returned (.bool true)∧HSt kt base h lost ds (m+5) X w'
theorem HSt.ask {kt:Nat→Int}{base h:Nat}{lost:Bool}{ds:List Dr}{m j:Nat}{W w:World}(H:HSt kt base h lost ds m W w)(G:zOi kt base h lost ds j)(J:m≤10000000000){k:Nat}(hk:k<j){i:Nat}(hi:i<ds.length):Calls Tryz.prog 14 #[.pointer (some ⟨h,0,none⟩),.agg #[.pointer (some ⟨ds[i].v,0,none⟩),.pointer (some ⟨ds[i].y,0,none⟩)],.int .i64 k] w fun e w'=>e=.returned (.bool true)∧HSt kt base h lost ds (m+5) W w':=by
 obtain⟨bk,A,D,F⟩:=H
 exact (G k hk ds[i] (List.getElem_mem hi) m bk w A D J).mono fun e w' u=>⟨u.1,u.2.pre F⟩
def RawI (base:Nat)(w:World)(a:Option Addr)(n:Nat)(A:Nat→Int):Prop:=∀i,i<n→∃b off,a=some ⟨b,off,none⟩∧b<base∧w.cell? ⟨b,off+i,none⟩=some (.int .i64 (A i))∧ -9223372036854775808≤A i∧A i≤9223372036854775807
theorem RawI.low {base:Nat}{w w':World}{a:Option Addr}{n:Nat}{A:Nat→Int}(h:RawI base w a n A)(hb:Below base w w'):RawI base w' a n A:=fun i hi=>by
 obtain⟨b,off,e,j,u,D⟩:=h i hi
 exact⟨b,off,e,j,(hb.cell (p:=⟨b,off+i,none⟩) j).trans u,D⟩
theorem zNV (kt:Nat→Int)(base h:Nat)(lost:Bool)(ds:List Dr)(u:Nat)(A:Nat→Int)(a:Option Addr)(n aV:Nat)(W w:World)(H:HSt kt base h lost ds 0 W w)(hA:zOi kt base h lost ds u)(aC:0<u)(b2:u≤6)(aK:ds.length≤2)(hn:n≤100000000)(hR:RawI base W a n A):
 Calls Tryz.prog 5 #[.pointer (some ⟨h,0,none⟩),.slice a n aV,.int .i64 u] w fun e w'=>e=.returned (.bool true)∧∃m,HSt kt base h lost ds m W w':=by
 have HP:Hid (HSt kt base h lost ds 0 W w):=H
 have HA:Hid _:=hA
 have HR:Hid (RawI base W a n A):=hR
 obtain⟨G,a2⟩:∃x,ds.length=x:=⟨_,rfl⟩
 have bL:Hid (ds.length=G):=a2
 have a7:Hid (∀(m:Nat) (X:World),HSt kt base h lost ds m W X→∃al cl,X.cell? ⟨h,0,none⟩=some (.slice al G cl)∧∀i (hi:i<G),∃g v y,al=some ⟨g,0,none⟩∧X.cell? ⟨g,i*2,none⟩=some (.pointer (some ⟨v,0,none⟩))∧X.cell? ⟨g,i*2+1,none⟩=some (.pointer (some ⟨y,0,none⟩))∧∀k,k<u→m≤10000000000→∀X',HSt kt base h lost ds m W X'→Calls Tryz.prog 14 #[.pointer (some ⟨h,0,none⟩),.agg #[.pointer (some ⟨v,0,none⟩),.pointer (some ⟨y,0,none⟩)],.int .i64 k] X' fun e w'=>e=.returned (.bool true)∧HSt kt base h lost ds (m+5) W w'):=fun m X hX=>by
  obtain⟨al,cl,h1,h2⟩:=hX.list
  rw[a2]at h1
  refine⟨al,cl,h1,fun i hi=> ?_⟩
  rw[←a2]at hi
  obtain⟨g,e,c1,c2⟩:=h2 i hi
  exact⟨g,_,_,e,c1,c2,fun k hk hm X' a9=>a9.ask hA hm hk hi⟩
 rw[a2]at aK
 have bP:Hid (∀(m:Nat) (X:World),HSt kt base h lost ds m W X→base≤X.heap.size):=fun m X ⟨bk,h1,_⟩=>h1.bw
 clear H hA hR a2
 go_enter Tryz.func5,Tryz.ntmps5
 go_wp2_with fail
 go_loopw [7] (fun iv wr=>∃i:Nat,i≤n∧iv=.int .i64 i∧HSt kt base h lost ds (5*i) W wr) (fun iv _=>n-(intOf iv).toNat)
 case atStart=>exact⟨0,by omega,rfl,HP.out⟩
 case round=>
  obtain⟨i,hi,rfl,hI⟩:=hrel
  have HI:Hid (HSt kt base h lost ds (5*i) W wr):=hI
  obtain⟨al,cl,c0,a1⟩:=a7.out _ _ hI
  have aF:Hid _:=a1
  clear hI a1
  by_cases aN:i<n∧0<G
  ·obtain⟨b0,b4⟩:=aN
   have bF:(i:Int)<(n:Int):=by omega
   have bG:(0:Int)<(G:Int):=by omega
   obtain⟨b,off,ha,bX,x0,b5,b6⟩:=HR.out.low (by obtain⟨_,_,_,hb⟩:=HI.out;exact hb) i b0
   subst ha
   have hN:0<u*G:=Nat.mul_pos aC b4
   have aJ:u*G≤12:=Nat.mul_le_mul b2 aK
   obtain⟨NN,a5⟩:∃x,u*G=x:=⟨_,rfl⟩
   have e1:(u:Int)*(G:Int)=(NN:Int):=by rw[←a5];simp
   have u1:IntKind.i64.wrap (NN:Int)=(NN:Int):=by rw[IntKind.wrap_i64];omega
   rw[a5]at hN aJ
   have aH:Hid (∀X:World,Calls Tryz.prog 13 #[.int .i64 (A i),.int .i64 NN] X fun e w'=>e=.returned (.int .i64 (pk (A i) NN))∧w'=X):=fun X=>zHr (A i) NN X hN (by omega) b5 b6
   have hx:pk (A i) NN<NN:=by unfold pk;exact Nat.mod_lt _ hN
   obtain⟨x,aO⟩:∃x,pk (A i) NN=x:=⟨_,rfl⟩
   rw[aO]at hx aH
   have hq:x/u<G:=by rw[Nat.div_lt_iff_lt_mul aC,Nat.mul_comm,a5];exact hx
   have hr:x%u<u:=Nat.mod_lt _ aC
   obtain⟨Q,hQ⟩:∃y,x/u=y:=⟨_,rfl⟩
   obtain⟨R,a8⟩:∃y,x%u=y:=⟨_,rfl⟩
   have d1:(x:Int)/(u:Int)=(Q:Int):=by rw[←hQ,Int.natCast_ediv]
   have d3:(x:Int).tdiv (u:Int)=(Q:Int):=by rw[Int.tdiv_eq_ediv_of_nonneg (by omega)];exact d1
   have d4:(x:Int)%(u:Int)=(R:Int):=by rw[←a8,Int.natCast_emod]
   have d5:(x:Int).tmod (u:Int)=(R:Int):=by rw[Int.tmod_eq_emod_of_nonneg (by omega)];exact d4
   rw[hQ]at hq
   rw[a8]at hr
   have u2:IntKind.i64.wrap (Q:Int)=(Q:Int):=by rw[IntKind.wrap_i64];omega
   have u3:IntKind.i64.wrap (R:Int)=(R:Int):=by rw[IntKind.wrap_i64];omega
   have cB:((u:Int) == 0)=false:=by simp;omega
   have cC:¬(u:Int)=0:=by omega
   have cD:¬u=0:=by omega
   obtain⟨g,v,y,aA,y0,y1,F⟩:=aF.out Q hq
   subst aA
   have J:Hid (∀X',HSt kt base h lost ds (5*i) W X'→Calls Tryz.prog 14 #[.pointer (some ⟨h,0,none⟩),.agg #[.pointer (some ⟨v,0,none⟩),.pointer (some ⟨y,0,none⟩)],.int .i64 R] X' fun e w'=>e=.returned (.bool true)∧HSt kt base h lost ds (5*i+5) W w'):=fun X' a9=>F R hr (by omega) X' a9
   have c8:(0:Int)≤(Q:Int):=by omega
   have c9:(Q:Int)<(G:Int):=by omega
   clear F a5 aO hQ a8 hN aJ hx
   go_wp2_with fail
   go_quiet ((go_at_call 13;refine Calls.quiet_of_same (aH.out _)))
   go_wp2_with fail
   go_region_with (go_at_call 14;refine Calls.mono (J.out _ (HI.out.low (below_drewN (Below.refl _ _) _))) ?_;rintro e w6 ⟨rfl,Z⟩)
   all_goals
    have U:Hid (Calls Tryz.prog 15 #[.pointer (some ⟨h,1,none⟩)] w6 fun e w'=>e=.returned (.bool true)∧HSt kt base h lost ds (5*i+5) W w'):=Z.looks (by omega)
    clear Z
    go_wp2_with fail
    refine Calls.mono U.out ?_
    rintro e w7 ⟨rfl,D⟩
    have N:Hid (HSt kt base h lost ds (5*i+5) W w7):=D
    clear D
    go_wp2_with fail
    go_roundw
    case rel=>exact⟨i+1,by omega,by go_num,N.out⟩
    case measure=>simp[intOf];omega
  ·have aG:Hid (HSt kt base h lost ds (5*n) W wr):=HI.out.more (by omega)
   have aB:(¬(i:Int)<(n:Int))∨((i:Int)<(n:Int)∧G=0):=by omega
   clear aN HI aF
   rcases aB with hc|⟨hc,hz⟩
   ·go_wp2_with fail
    clear c0 hc
    go_loopw [11] (fun iv wx=>∃j:Nat,j≤G∧iv=.int .i64 j∧HSt kt base h lost ds (5*n+30*j) W wx) (fun iv _=>G-(intOf iv).toNat)
    case atStart=>exact⟨0,by omega,rfl,aG.out⟩
    case round=>
     obtain⟨j,hj,rfl,hJ⟩:=hrel
     have HJ:Hid (HSt kt base h lost ds (5*n+30*j) W wr):=hJ
     obtain⟨al,cl,c0,_⟩:=a7.out _ _ hJ
     clear hJ
     by_cases b1:j<G
     ·have aL:(j:Int)<(G:Int):=by omega
      have bY:(0:Int)≤(j:Int):=by omega
      go_wp2_with fail
      clear c0
      go_loopw [12] (fun kv wx=>∃k:Nat,k≤u∧kv=.int .i64 k∧HSt kt base h lost ds (5*n+30*j+5*k) W wx) (fun kv _=>u-(intOf kv).toNat)
      case atStart=>exact⟨0,by omega,rfl,HJ.out⟩
      case round=>
       obtain⟨k,hk,rfl,hK⟩:=hrel
       have aU:Hid (HSt kt base h lost ds (5*n+30*j+5*k) W wr):=hK
       by_cases b3:k<u
       ·have aM:(k:Int)<(u:Int):=by omega
        obtain⟨bQ,bS,c2,a1⟩:=a7.out _ _ hK
        obtain⟨g,v,y,aA,y0,y1,F⟩:=a1 j b1
        subst aA
        have J:Hid (Calls Tryz.prog 14 #[.pointer (some ⟨h,0,none⟩),.agg #[.pointer (some ⟨v,0,none⟩),.pointer (some ⟨y,0,none⟩)],.int .i64 k] wr fun e w'=>e=.returned (.bool true)∧HSt kt base h lost ds (5*n+30*j+5*k+5) W w'):=F k b3 (by omega) wr aU.out
        clear a1 F hK
        go_wp2_with fail
        refine Calls.mono J.out ?_
        rintro e w6 ⟨rfl,Z⟩
        have aS:Hid (HSt kt base h lost ds (5*n+30*j+5*(k+1)) W w6):=Z
        clear Z c2 y0 y1
        go_wp2_with fail
        go_roundw
        case rel=>exact⟨k+1,by omega,by go_num,aS.out⟩
        case measure=>simp[intOf];omega
       ·have aM:¬(k:Int)<(u:Int):=by omega
        have aT:Hid (HSt kt base h lost ds (5*n+30*(j+1)) W wr):=hK.more (by omega)
        clear hK
        go_wp2_with fail
        go_roundw
        case rel=>exact⟨j+1,by omega,by go_num,aT.out⟩
        case measure=>simp[intOf];omega
     ·have aL:¬(j:Int)<(G:Int):=by omega
      have U:Hid (Calls Tryz.prog 15 #[.pointer (some ⟨h,1,none⟩)] wr fun e w'=>e=.returned (.bool true)∧HSt kt base h lost ds (5*n+30*j) W w'):=HJ.out.looks (by omega)
      go_wp2_with fail
      refine Calls.mono U.out ?_
      rintro e w7 ⟨rfl,D⟩
      have N:Hid (HSt kt base h lost ds (5*n+30*j) W w7):=D
      clear D
      go_wp2_with fail
      go_ret
      exact⟨rfl,_,N.out⟩
   ·subst hz
    have U:Hid (Calls Tryz.prog 15 #[.pointer (some ⟨h,1,none⟩)] wr fun e w'=>e=.returned (.bool true)∧HSt kt base h lost ds (5*n) W w'):=aG.out.looks (by omega)
    go_wp2_with fail
    refine wp_loop_rounds 1 ?_
    rw[rounds_succ]
    go_wp2_with fail
    refine Calls.mono U.out ?_
    rintro e w7 ⟨rfl,D⟩
    have N:Hid (HSt kt base h lost ds (5*n) W w7):=D
    clear D
    go_wp2_with fail
    go_ret
    exact⟨rfl,_,N.out⟩
theorem HK.empty {kt:Nat→Int}{base h:Nat}{lost:Bool}{w:World}(D:8≤base)(F:Glb kt w)(A:base≤h)(hb:base≤w.heap.size)(G:w.heap[h]? =some (.cells #[.slice none 0 0,.int .i64 0,.slice none 0 0,.slice none 0 0,.slice none 0 0,.slice none 0 0,.bool lost] 33 (0,0))):HK kt base h lost [] ⟨0,[],[],[],[]⟩ noZ w:=
 ⟨A,D,hb,⟨.slice none 0 0,⟨⟨_,_,_,_,G,zMN,zMN,zMN,zMN⟩,fun e u=>(by cases u),fun e u=>(by cases u),fun e u=>(by cases u),fun e u=>(by cases u)⟩,zMN⟩,fun d hd=>(by cases hd),fun d hd=>(by cases hd),List.Pairwise.nil,fun j J=>(by
  rcases J with ⟨e,u,_⟩|⟨e,u,_⟩|⟨e,u,_⟩|⟨e,u,_⟩<;>cases u),F⟩
end Go.Proofs.YtlopecgkiikdhaaGreatDoor
