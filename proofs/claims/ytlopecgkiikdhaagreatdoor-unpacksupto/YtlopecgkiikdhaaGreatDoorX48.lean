import Derived.Test.YtlopecgkiikdhaaGreatDoorX47
namespace Go.Proofs.YtlopecgkiikdhaaGreatDoor
open Go.RowKit
set_option maxRecDepth 100000
set_option maxHeartbeats 4000000
theorem zFk {kt:Nat→Int}{T:TT}{bl:Nat→ByteArray}{H:Nat→ByteArray}{m:Nat}(h:zh H m=zA5 kt T bl T.L.es.length)(u:T.L.es.length≤16):(zA5 kt T bl T.L.es.length).length=m∧m≤16:=by
 have A:=zDI kt T bl T.L.es.length
 have j:(zA5 kt T bl T.L.es.length).length=m:=by rw[←h,zi]
 exact⟨j,by omega⟩
theorem zLo (kt:Nat→Int)(base h:Nat)(u:Bool)(Q:List Dr)(d:Dr)(m:Nat)(bk:Bk)(w:World)(H:HK kt base h u Q bk noZ w)(hd:d∈Q)(hm:bk.le m)(dE:m≤10000000000):
 Calls Tryz.prog 35 #[.pointer (some ⟨h,0,none⟩),drA d] w fun e w'=>e=.returned (.bool true)∧HSt kt base h u Q (m+5) w w':=by
 obtain⟨W,hW⟩:∃W,w.alloc (.cells (drC d) 53)=W:=⟨_,rfl⟩
 have aQ:Below w.heap.size w W:=by rw[←hW];exact (Below.refl _ _).alloc (Nat.le_refl _) _
 have X:W.heap[w.heap.size]? =some (.cells (drC d) 53 (0,0)):=by rw[←hW];exact heap_alloc_new _ _
 have H1:=H.low aQ
 obtain⟨db,aE⟩:∃x,w.heap.size=x:=⟨_,rfl⟩
 rw[aE]at X
 have HH:Hid _:=H
 have bV:Hid _:=aQ
 have cI:Hid _:=X
 have a6:Hid _:=H1
 have HF:Hid _:=H.fit d hd
 have d1:Hid (w.heap.size=db):=aE
 have c0:W.cell? ⟨db,0,none⟩=some (.pointer (some ⟨d.v,0,none⟩)):=cell_of_row _ _ _ _ 53 _ X
 have c1:W.cell? ⟨db,1,none⟩=some (.pointer (some ⟨d.y,0,none⟩)):=cell_of_row _ _ _ _ 53 _ X
 unfold drC at hW
 unfold drA
 obtain⟨hT,aR⟩:=HF.out.told
 have aU:Hid _:=aR
 have HV:Hid (Calls Tryz.prog 65 #[.pointer (some ⟨d.v,0,none⟩)] W fun e w'=>∃U er,e=.returned (.tuple #[U,er])∧VUn kt d.B d.v d.k d.g d.p d.q d.f (tT d.t0) d.un d.ul d.rd d.bl W U er w'):=zFF kt d.B d.v d.k d.g d.p d.q d.f (tT d.t0) d.un d.ul d.rd d.bl W (H1.here d hd).vk hT aR H1.glb.gd (H1.here d hd).bw (by have:=(H1.here d hd).lo.2.1;have:=H1.bs;omega)
 clear H aQ X H1 hT aR
 go_enter Tryz.func35,Tryz.ntmps35
 go_wp2_with fail
 refine Calls.mono HV.out ?_
 rintro e J ⟨U,er,rfl,l,F,n,N,A,bK,hF,a9,aG,hl,aH,aF⟩
 obtain⟨aD,a1⟩:=a6.out.worked hd hF
 have b9:=a1 db _ cI.out
 have x1:J.cell? ⟨db,1,none⟩=some (.pointer (some ⟨d.y,0,none⟩)):=cell_of_row _ _ _ _ 53 _ b9
 obtain⟨Z,hZ⟩:∃Z:Nat→Prop,Z=fun j=>U.ownBlock=some j∨J.heap.size≤j:=⟨_,rfl⟩
 have a8:HK kt base h u Q bk Z J:=by
  obtain⟨cP,dn,zs,bd,aO⟩:=bK
  refine a6.out.work hd hF cP ⟨dn,zs,bd,aO,fun j D ho=> ?_⟩ (fun j D=> ?_)
  ·rw[hZ]at D
   rcases D with D|D
   ·obtain⟨c1,e1⟩:=aO.out3 ho
    obtain⟨c2,e2⟩:=zB a9 j D
    exact zE e1 e2 (by decide) rfl
   ·have:=aO.outs j ho;omega
  ·rw[hZ]at D
   rcases D with D|D
   ·exact zK a9 j D
   ·exact Nat.le_trans hF.size D
 have cB:Hid (Calls Tryz.prog 66 #[.pointer (some ⟨d.y,0,none⟩)] J fun e w'=>RUn kt (tT d.t0) (blH (d.hp.map Prod.fst)) J e w'):=zIa kt d.C d.y d.vH d.vU d.hp d.ul d.t0 J ((a8.here d hd).rb HF.out) HF.out.set a8.glb.gr HF.out.hl
 obtain⟨c,hc⟩:∃c:Option Nat,c=if A=0 then none else some A:=⟨_,rfl⟩
 have bA:LEx er l c J:=by
  rcases aF with ⟨h0,e⟩|⟨h0,h1⟩
  ·rw[hc,if_pos h0];exact e
  ·rw[hc,if_neg (by omega)];exact h1
 have bW:Hid (LEx er l c J):=bA
 have HC:Hid (c=if A=0 then none else some A):=hc
 have aT:Hid (HK kt base h u Q bk Z J):=a8
 have aX:Hid (OwnF J W.heap.size U n F):=a9
 have aV:Hid (zEZ F n=zEa kt (tT d.t0) (blH (d.hp.map Prod.fst)) (tT d.t0).L.es.length):=aG
 have HL:Hid (J.ownsRow W.heap.size 9 1 l A (tV N A)):=hl
 have aW:Hid (zh N A=zA5 kt (tT d.t0) (blH (d.hp.map Prod.fst)) (tT d.t0).L.es.length):=aH
 have bS:Hid (Below base w J):=(bV.out.mono HH.out.bw).trans aD
 have HZ:Hid (Z=fun j=>U.ownBlock=some j∨J.heap.size≤j):=hZ
 have d3:Hid (W.heap.size≤J.heap.size):=hF.size
 clear bK hF a8 aD a1 b9 a9 aG hl aH aF hZ hc bA
 go_wp2_with fail
 refine Calls.mono cB.out ?_
 rintro e W2 ⟨bL,vm,vl,F',n',rfl,R,aJ,G,bD,aI⟩
 obtain⟨bB,bC⟩:=zFk aW.out aU.out.1
 obtain⟨S,hS⟩:∃x,J.heap.size=x:=⟨_,rfl⟩
 obtain⟨T0,aN⟩:∃x,W.heap.size=x:=⟨_,rfl⟩
 have b1:PS kt base h u Q m Z S T0 er l c A N vm vl w W2:=by
  refine⟨⟨bk,aT.out.low R,hm,fun j D=> ?_⟩,bW.out.kept (fun j cs t _ D=>by rw[R.block j (Array.getElem?_eq_some_iff.1 D).1];exact D),zAJ (zD HL.out (fun q hq=>R.block q (zG HL.out q hq))) (Nat.zero_le _),?_,?_,by rw[←hS];exact R.size,fun j D=> ?_,bC,fun e=> ?_,bS.out.trans (R.mono aT.out.bw)⟩
  ·obtain⟨l1,cL,_⟩:=a6.out.book
   rw[←aN]
   exact (cL.lt D).2
  ·have e:zOR c=if (zA5 kt (tT d.t0) (blH (d.hp.map Prod.fst)) (tT d.t0).L.es.length).length=0 then [] else [(14,((zA5 kt (tT d.t0) (blH (d.hp.map Prod.fst)) (tT d.t0).L.es.length).length:Int))]:=by
    rw[bB,HC.out]
    by_cases h0:A=0
    ·rw[if_pos h0,if_pos h0];rfl
    ·rw[if_neg h0,if_neg h0];rfl
   rw[e]
   exact zAJ bD (Nat.zero_le _)
  ·rw[aW.out];exact aI.base (Nat.zero_le _)
  ·rw[HZ.out];exact .inr (by rw[hS];exact D)
  ·rw[HC.out]at e
   by_cases h0:A=0
   ·exact h0
   ·rw[if_neg h0]at e;cases e
 have cM:n'=n:=by
  have h1:=congrArg List.length aV.out
  have h2:=congrArg List.length G
  rw[zDQ]at h1 h2
  omega
 subst cM
 have cY:n'≤16:=by
  have h1:=zFq kt (tT d.t0) (blH (d.hp.map Prod.fst)) (tT d.t0).L.es.length
  rw[←G,zDQ]at h1
  have:=aU.out.1
  omega
 have a2:OwnF W2 W.heap.size U n' F:=zD aX.out (fun q hq=>R.block q (zG aX.out q hq))
 have cE:Hid (Calls Tryz.prog 67 #[U,bL] W2 fun e w'=>e=.returned (.bool true)∧Below W2.heap.size W2 w'):=zNk F F' n' (fun i hi=>by
  have h1:(zEZ F n')[i]? =(zEZ F' n')[i]? :=by rw[aV.out,G]
  unfold zEZ at h1
  rw[List.getElem?_map,List.getElem?_map,List.getElem?_range hi]at h1
  exact Option.some.inj h1) W.heap.size J.heap.size U bL W2 (by omega) a2 aJ
 have cA:Hid (PS kt base h u Q m Z S T0 er l c A N vm vl w W2):=b1
 have aA:Hid (OwnF W2 W.heap.size U n' F):=a2
 have cF:Hid (W.heap.size=T0):=aN
 have bU:Hid (base≤W.heap.size):=a6.out.bw
 clear R aJ G bD aI b1 a2 bB x1 c0 c1 aN
 go_wp2_with fail
 refine Calls.mono cE.out ?_
 rintro e W3 ⟨rfl,aP⟩
 have a4:OwnF W3 W.heap.size U n' F:=zD aA.out (fun q hq=>aP.block q (zG aA.out q hq))
 have bY:Hid (Calls Tryz.prog 68 #[.pointer (some ⟨h,1,none⟩),U] W3 fun e w'=>e=.returned (.tuple #[])∧PS kt base h u Q (m+1) Z S w'.heap.size er l c A N vm vl w w'):=(cA.out.low aP).keepO (by omega) (zAJ a4 bU.out) (by omega) (fun j D=>⟨by rw[←cF.out];exact zK a4 j D,by rw[HZ.out];exact .inl D⟩)
 clear aP a4
 go_wp2_with fail
 refine Calls.mono bY.out ?_
 rintro e W4 ⟨rfl,b2⟩
 have cG:Hid (Calls Tryz.prog 11 #[er,vm] W4 fun e w'=>e=.returned (.bool true)∧PS kt base h u Q (m+1) Z S W4.heap.size er l c A N vm vl w w'):=b2.told
 clear b2
 go_wp2_with fail
 refine Calls.mono cG.out ?_
 rintro e W5 ⟨rfl,aM⟩
 have c9:Hid (Calls Tryz.prog 24 #[er] W5 fun e w'=>∃v,e=.returned v∧PS kt base h u Q (m+1) Z S W5.heap.size er l c A N vm vl w w'∧w'.ownsRow W5.heap.size 9 1 v A (tV N A)∧∀j,v.ownBlock=some j→(W5.heap.size≤j∧l.ownBlock≠some j∧vl.ownBlock≠some j)∧Z j):=aM.names
 have bT:Hid (base≤W5.heap.size):=by obtain⟨_,k1,_⟩:=aM.hk;exact k1.bw
 clear aM
 go_wp2_with fail
 refine Calls.mono c9.out ?_
 rintro e W6 ⟨v6,rfl,b3,bE,bJ⟩
 have cD:Hid (Calls Tryz.prog 17 #[v6,vl] W6 fun e w'=>e=.returned (.bool true)∧PS kt base h u Q (m+1) Z S W5.heap.size er l c A N vm vl w w'∧w'.ownsRow W5.heap.size 9 1 v6 A (tV N A)):=b3.same bE
 have cH:Hid (∀j,v6.ownBlock=some j→(W5.heap.size≤j∧l.ownBlock≠some j∧vl.ownBlock≠some j)∧Z j):=bJ
 clear b3 bE bJ
 go_wp2_with fail
 refine Calls.mono cD.out ?_
 rintro e W7 ⟨rfl,b4,bF⟩
 have bZ:Hid (Calls Tryz.prog 69 #[.pointer (some ⟨h,1,none⟩),v6] W7 fun e w'=>e=.returned (.tuple #[])∧PS kt base h u Q (m+1+1) Z S w'.heap.size er l c A N vm vl w w'):=b4.keepT (by omega) (zAJ bF bT.out) (by omega) cH.out
 clear b4 bF
 go_wp2_with fail
 refine Calls.mono bZ.out ?_
 rintro e W8 ⟨rfl,b5⟩
 have c8:Hid (Calls Tryz.prog 24 #[er] W8 fun e w'=>∃v,e=.returned v∧PS kt base h u Q (m+1+1) Z S W8.heap.size er l c A N vm vl w w'∧w'.ownsRow W8.heap.size 9 1 v A (tV N A)∧∀j,v.ownBlock=some j→(W8.heap.size≤j∧l.ownBlock≠some j∧vl.ownBlock≠some j)∧Z j):=b5.names
 clear b5
 go_wp2_with fail
 refine Calls.mono c8.out ?_
 rintro e W9 ⟨v9,rfl,b6,bG,cO⟩
 have cC:Hid (Calls Tryz.prog 17 #[v9,vl] W9 fun e w'=>e=.returned (.bool true)∧PS kt base h u Q (m+1+1) Z S W8.heap.size er l c A N vm vl w w'∧w'.ownsRow W8.heap.size 9 1 v9 A (tV N A)):=b6.same bG
 clear b6 bG cO
 go_wp2_with fail
 refine Calls.mono cC.out ?_
 rintro e WA ⟨rfl,b7,cN⟩
 have bX:Hid (HSt kt base h u Q (m+1+1) w WA):=b7.fin
 clear b7 cN
 go_wp2_with fail
 go_ret
 exact⟨rfl,bX.out.more (by omega)⟩
theorem zD3 (P:Nat→Prop) [DecidablePred P]:∀n,(∀s,s<n→P s)∨∃j,j<n∧¬P j∧∀x,x<j→P x
 |0=>.inl (fun s hs=>by omega)
 |n+1=>by
  rcases zD3 P n with h|⟨j,F,A,D⟩
  ·by_cases u:P n
   ·refine .inl (fun s hs=> ?_)
    by_cases e:s=n
    ·rw[e];exact u
    ·exact h s (by omega)
   ·exact .inr ⟨n,by omega,u,h⟩
  ·exact .inr ⟨j,by omega,A,D⟩
def PRp (kt:Nat→Int)(d:Dr)(vo lo:List ByteArray)(c:Option Nat)(w:World)(e:Ending)(w':World):Prop:=
 ∃vv er l RF nv HN mn,e=.returned (.tuple #[vv,er])∧VK kt d.B d.v d.k d.g d.p d.q d.f (tT d.t0) d.un d.ul d.rd d.bl w'∧Fr (fun j=>j=d.q∨j=d.f∨j=d.v) w w'∧w'.ownsRow w.heap.size 9 1 vv nv (tV RF nv)∧zh RF nv=vo∧w'.ownsRow 0 9 1 l mn (tV HN mn)∧zh HN mn=lo∧LEx er l c w'∧(nv≤16∧mn≤16)∧(c=none→mn=0)∧Apt vv l
def DRp (vo lo:List ByteArray)(c:Option Nat)(w:World)(e:Ending)(w':World):Prop:=
 ∃vv vm vl,e=.returned (.tuple #[vv,vm,vl])∧Below w.heap.size w w'∧OwnT w' w.heap.size vv vo∧Mk w' w.heap.size vm (zOR c)∧OwnT w' w.heap.size vl lo
theorem zJ1 (kt:Nat→Int)(base:Nat)(d:Dr)(hf:d.fit kt)(W:World)(Z0:Nat→Prop)(Q:d.at kt base Z0 W)(hG:Glb kt W)(aI:8≤base):
 ∃vo lo c,(Calls Tryz.prog 70 #[.pointer (some ⟨d.v,0,none⟩)] W fun e w'=>PRp kt d vo lo c W e w')∧∀(X:World) (Z1:Nat→Prop),d.at kt base Z1 X→Glb kt X→Calls Tryz.prog 71 #[.pointer (some ⟨d.y,0,none⟩)] X fun e w'=>DRp vo lo c X e w':=by
 obtain⟨hT,G⟩:=hf.told
 have a8:∀x∈(tT d.t0).L.es,x.1.size≤255:=zFA (RS.on d.t0)
 have h2:d.v≠3:=by have:=Q.lo.2.1;omega
 rcases zD3 (fun s=>stF kt (tT d.t0) d.bl s=0) (tT d.t0).L.ns with Z|⟨N,U,j,u⟩
 ·refine⟨zh (reV kt (tT d.t0) (blW kt (tT d.t0) d.bl)) (tT d.t0).L.V,[],none,?_,fun X Z1 hX A=> ?_⟩
  ·refine (zFE kt d.B d.v d.k d.g d.p d.q d.f (tT d.t0) d.un d.ul d.rd d.bl W Q.vk hT G a8 hG.gd Q.bw h2 Z).mono ?_
   rintro e w' ⟨vv,F,J,hF,R⟩
   exact⟨vv,.nilIface,.slice none 0 0,_,_,fun _=>⟨#[]⟩,0,F,J,hF,R,rfl,⟨rfl,.inl ⟨rfl,rfl⟩⟩,rfl,rfl,⟨hT.v16,by omega⟩,fun _=>rfl,zEd _⟩
  ·refine (zIU kt d.C d.y d.vH d.vU d.hp d.ul d.t0 X (hX.rb hf) hf.set A.gr hf.hl).mono ?_
   rintro e w' ⟨vv,vm,vl,F,hb,hc⟩
   rcases hc with ⟨_,rfl,rfl,R⟩|⟨s,hs,D,_⟩
   ·refine⟨vv,_,_,F,hb,?_,Mk.nil _ _,OwnT.nil _ _⟩
    unfold OwnT
    rw[zi]
    have e:txs (zh (reV kt (tT d.t0) (blW kt (tT d.t0) d.bl)) (tT d.t0).L.V)=txV (reV kt (tT d.t0) (blW kt (tT d.t0) d.bl)) (tT d.t0).L.V:=by simp[txs,zh,txV,List.map_map]
    rw[e]
    exact R
   ·exact absurd (Z s hs) D
 ·refine⟨[],zA5 kt (tT d.t0) d.bl (tT d.t0).L.es.length,some N,?_,fun X Z1 hX A=> ?_⟩
  ·refine (zGz kt d.B d.v d.k d.g d.p d.q d.f (tT d.t0) d.un d.ul d.rd d.bl W Q.vk hT G hG.gd Q.bw h2 N U j u).mono ?_
   rintro e w' ⟨er,l,HN,mn,F,J,hF,R,ht,hl⟩
   exact⟨.slice none 0 0,er,l,fun _=>⟨#[]⟩,0,HN,mn,F,J,hF,⟨rfl,.inl ⟨rfl,rfl⟩⟩,rfl,zAJ R (Nat.zero_le _),ht,hl,⟨by omega,(zFk ht G.1).2⟩,fun e=>(by cases e),zJC _⟩
  ·refine (zIU kt d.C d.y d.vH d.vU d.hp d.ul d.t0 X (hX.rb hf) hf.set A.gr hf.hl).mono ?_
   rintro e w' ⟨vv,vm,vl,F,hb,hc⟩
   rcases hc with ⟨Z,_⟩|⟨s,hs,D,aA,rfl,a7,a9⟩
   ·exact absurd (Z N U) j
   ·have aB:s=N:=by
     rcases Nat.lt_trichotomy s N with h|h|h
     ·exact absurd (u s h) D
     ·exact h
     ·exact absurd (aA N h) j
    subst aB
    exact⟨_,vm,vl,F,hb,OwnT.nil _ _,a7,a9⟩
theorem zLm (kt:Nat→Int)(base h:Nat)(u:Bool)(Q:List Dr)(d:Dr)(m:Nat)(bk:Bk)(w:World)(H:HK kt base h u Q bk noZ w)(hd:d∈Q)(hm:bk.le m)(d4:m≤10000000000):
 Calls Tryz.prog 36 #[.pointer (some ⟨h,0,none⟩),drA d] w fun e w'=>e=.returned (.bool true)∧HSt kt base h u Q (m+5) w w':=by
 obtain⟨W,hW⟩:∃W,w.alloc (.cells (drC d) 53)=W:=⟨_,rfl⟩
 have aR:Below w.heap.size w W:=by rw[←hW];exact (Below.refl _ _).alloc (Nat.le_refl _) _
 have U:W.heap[w.heap.size]? =some (.cells (drC d) 53 (0,0)):=by rw[←hW];exact heap_alloc_new _ _
 have H1:=H.low aR
 obtain⟨db,aJ⟩:∃x,w.heap.size=x:=⟨_,rfl⟩
 rw[aJ]at U
 have HH:Hid _:=H
 have bP:Hid _:=aR
 have cF:Hid _:=U
 have aB:Hid _:=H1
 have HF:Hid _:=H.fit d hd
 have cS:Hid (w.heap.size=db):=aJ
 have c0:W.cell? ⟨db,0,none⟩=some (.pointer (some ⟨d.v,0,none⟩)):=cell_of_row _ _ _ _ 53 _ U
 have c1:W.cell? ⟨db,1,none⟩=some (.pointer (some ⟨d.y,0,none⟩)):=cell_of_row _ _ _ _ 53 _ U
 unfold drC at hW
 unfold drA
 obtain⟨D,N,c,a5,aK⟩:=zJ1 kt base d HF.out W noZ (H1.here d hd) H1.glb H1.bs
 have HV:Hid (Calls Tryz.prog 70 #[.pointer (some ⟨d.v,0,none⟩)] W fun e w'=>PRp kt d D N c W e w'):=a5
 have HD:Hid (∀(X:World) (Z1:Nat→Prop),d.at kt base Z1 X→Glb kt X→Calls Tryz.prog 71 #[.pointer (some ⟨d.y,0,none⟩)] X fun e w'=>DRp D N c X e w'):=aK
 clear H aR U H1 a5 aK
 go_enter Tryz.func36,Tryz.ntmps36
 go_wp2_with fail
 refine Calls.mono HV.out ?_
 rintro e J ⟨vv,er,l,RF,nv,R,G,rfl,bE,hF,aD,bC,hl,bB,b4,cJ,b2,aH⟩
 obtain⟨aI,a4⟩:=aB.out.worked hd hF
 have b3:=a4 db _ cF.out
 have x1:J.cell? ⟨db,1,none⟩=some (.pointer (some ⟨d.y,0,none⟩)):=cell_of_row _ _ _ _ 53 _ b3
 obtain⟨Z,hZ⟩:∃Z:Nat→Prop,Z=fun j=>vv.ownBlock=some j∨J.heap.size≤j:=⟨_,rfl⟩
 have aC:HK kt base h u Q bk Z J:=by
  obtain⟨cK,dn,zs,bd,aP⟩:=bE
  refine aB.out.work hd hF cK ⟨dn,zs,bd,aP,fun j A ho=> ?_⟩ (fun j A=> ?_)
  ·rw[hZ]at A
   rcases A with A|A
   ·obtain⟨c1,e1⟩:=aP.out3 ho
    obtain⟨c2,e2⟩:=zB aD j A
    exact zE e1 e2 (by decide) rfl
   ·have:=aP.outs j ho;omega
  ·rw[hZ]at A
   rcases A with A|A
   ·exact zK aD j A
   ·exact Nat.le_trans hF.size A
 have bY:Hid (Calls Tryz.prog 71 #[.pointer (some ⟨d.y,0,none⟩)] J fun e w'=>DRp D N c J e w'):=HD.out J Z (aC.here d hd) aC.glb
 have bS:Hid (LEx er l c J):=b4
 have aU:Hid (HK kt base h u Q bk Z J):=aC
 have aM:Hid (J.ownsRow W.heap.size 9 1 vv nv (tV RF nv)):=aD
 have HL:Hid (J.ownsRow 0 9 1 l G (tV R G)):=hl
 have cB:Hid (zh RF nv=D):=bC
 have cC:Hid (zh R G=N):=bB
 have bL:Hid (Below base w J):=(bP.out.mono HH.out.bw).trans aI
 have HZ:Hid (Z=fun j=>vv.ownBlock=some j∨J.heap.size≤j):=hZ
 have bQ:Hid (c=none→G=0):=b2
 have bK:Hid (Apt vv l):=aH
 obtain⟨cQ,b5⟩:=cJ
 clear bE hF aC aI a4 b3 aD bC hl bB b4 hZ b2 aH
 go_wp2_with fail
 refine Calls.mono bY.out ?_
 rintro e W2 ⟨bF,vm,vl,rfl,F,aL,b6,a6⟩
 obtain⟨S,hS⟩:∃x,J.heap.size=x:=⟨_,rfl⟩
 obtain⟨T0,aO⟩:∃x,W.heap.size=x:=⟨_,rfl⟩
 have aX:PS kt base h u Q m Z S T0 er l c G R vm vl w W2:=by
  refine⟨⟨bk,aU.out.low F,hm,fun j A=> ?_⟩,bS.out.kept (fun j cs t _ A=>by rw[F.block j (Array.getElem?_eq_some_iff.1 A).1];exact A),zD HL.out (fun q hq=>F.block q (zG HL.out q hq)),zAJ b6 (Nat.zero_le _),?_,by rw[←hS];exact F.size,fun j A=> ?_,b5,bQ.out,bL.out.trans (F.mono aU.out.bw)⟩
  ·obtain⟨l1,cI,_⟩:=aB.out.book
   rw[←aO]
   exact (cI.lt A).2
  ·rw[cC.out];exact a6.base (Nat.zero_le _)
  ·rw[HZ.out];exact .inr (by rw[hS];exact A)
 have a7:W2.ownsRow W.heap.size 9 1 vv nv (tV RF nv):=zD aM.out (fun q hq=>F.block q (zG aM.out q hq))
 have c8:Hid (Calls Tryz.prog 17 #[vv,bF] W2 fun e w'=>e=.returned (.bool true)∧Below W2.heap.size W2 w'):=zKo RF nv D cB.out W.heap.size J.heap.size vv bF W2 (by omega) a7 aL
 have bX:Hid (PS kt base h u Q m Z S T0 er l c G R vm vl w W2):=aX
 have aE:Hid (W2.ownsRow W.heap.size 9 1 vv nv (tV RF nv)):=a7
 have c9:Hid (W.heap.size=T0):=aO
 have bO:Hid (base≤W.heap.size):=aB.out.bw
 have cE:Hid (∀j,vv.ownBlock=some j→vl.ownBlock≠some j):=fun j A e=>by
  have a1:=zG aM.out j A
  have a2:=zK a6 j e
  omega
 clear F aL b6 a6 aX a7 x1 c0 c1 aO
 go_wp2_with fail
 refine Calls.mono c8.out ?_
 rintro e W3 ⟨rfl,aQ⟩
 have a8:W3.ownsRow W.heap.size 9 1 vv nv (tV RF nv):=zD aE.out (fun q hq=>aQ.block q (zG aE.out q hq))
 have bU:Hid (Calls Tryz.prog 69 #[.pointer (some ⟨h,1,none⟩),vv] W3 fun e w'=>e=.returned (.tuple #[])∧PS kt base h u Q (m+1) Z S w'.heap.size er l c G R vm vl w w'):=(bX.out.low aQ).keepT (by omega) (zAJ a8 bO.out) (by omega) (fun j A=>⟨⟨by rw[←c9.out];exact zK a8 j A,fun e=>bK.out j A e,cE.out j A⟩,by rw[HZ.out];exact .inl A⟩)
 clear aQ a8
 go_wp2_with fail
 refine Calls.mono bU.out ?_
 rintro e W4 ⟨rfl,aY⟩
 have cA:Hid (Calls Tryz.prog 11 #[er,vm] W4 fun e w'=>e=.returned (.bool true)∧PS kt base h u Q (m+1) Z S W4.heap.size er l c G R vm vl w w'):=aY.told
 clear aY
 go_wp2_with fail
 refine Calls.mono cA.out ?_
 rintro e W5 ⟨rfl,aN⟩
 have bW:Hid (Calls Tryz.prog 24 #[er] W5 fun e w'=>∃v,e=.returned v∧PS kt base h u Q (m+1) Z S W5.heap.size er l c G R vm vl w w'∧w'.ownsRow W5.heap.size 9 1 v G (tV R G)∧∀j,v.ownBlock=some j→(W5.heap.size≤j∧l.ownBlock≠some j∧vl.ownBlock≠some j)∧Z j):=aN.names
 have bM:Hid (base≤W5.heap.size):=by obtain⟨_,k1,_⟩:=aN.hk;exact k1.bw
 clear aN
 go_wp2_with fail
 refine Calls.mono bW.out ?_
 rintro e W6 ⟨v6,rfl,aZ,b7,bD⟩
 have bZ:Hid (Calls Tryz.prog 17 #[v6,vl] W6 fun e w'=>e=.returned (.bool true)∧PS kt base h u Q (m+1) Z S W5.heap.size er l c G R vm vl w w'∧w'.ownsRow W5.heap.size 9 1 v6 G (tV R G)):=aZ.same b7
 have cD:Hid (∀j,v6.ownBlock=some j→(W5.heap.size≤j∧l.ownBlock≠some j∧vl.ownBlock≠some j)∧Z j):=bD
 clear aZ b7 bD
 go_wp2_with fail
 refine Calls.mono bZ.out ?_
 rintro e W7 ⟨rfl,b0,b9⟩
 have bV:Hid (Calls Tryz.prog 69 #[.pointer (some ⟨h,1,none⟩),v6] W7 fun e w'=>e=.returned (.tuple #[])∧PS kt base h u Q (m+1+1) Z S w'.heap.size er l c G R vm vl w w'):=b0.keepT (by omega) (zAJ b9 bM.out) (by omega) cD.out
 clear b0 b9
 go_wp2_with fail
 refine Calls.mono bV.out ?_
 rintro e W8 ⟨rfl,b1⟩
 have bT:Hid (HSt kt base h u Q (m+1+1) w W8):=b1.fin
 clear b1
 go_wp2_with fail
 go_ret
 exact⟨rfl,bT.out.more (by omega)⟩
set_option maxHeartbeats 8000000
section
open Go.Extern.Stop Go.Stop Go.Extern
theorem zLM (l:List (Int×Int))(v:Value)(t:Addr)(w:World)(hg:w.cell? ⟨1,0,none⟩=some (.iface 238 (rt 41)))(X:ErrAt w v l)(hl:l≠[]):
 Calls Tryz.prog 80 #[v,.iface 167 (.pointer (some t))] w fun J w'=>J=.returned (.bool false)∧w'=msC w t:=by
 have aF:=(zEy w t ⟨1,0,none⟩ (block_lt_of_cell hg)).trans hg
 have aH:=zOV
 have aI:=zOW
 have aJ:=zOX
 have aK:=zOY
 have aL:=zOZ
 have aM:=zOa
 have aN:=zOb
 have aO:=zOc
 have aP:=zBX 167 (.inl rfl)
 have aT:=zBx 167 (.inl rfl)
 have aX:=zBx 166 (.inr rfl)
 have aQ:∀(a:Addr) (u:World),(ReflectliteValue.methodAny (ReflectliteValue.valueError "reflectlite.Value.Type" 0) (fun t _ _ _=>ReflectliteType.toType t) #[rv 167 a 150]).run Tryz.prog u=.ok (.iface 238 (rt 167)) u:=fun a u=>by kernel_rfl
 have aS:∀(v:Value) (u:World),(ReflectliteType.typeOf #[.iface 150 v]).run Tryz.prog u=.ok (.iface 238 (rt 150)) u:=fun v u=>by kernel_rfl
 have aV:∀u:World,(ReflectliteType.method ReflectliteType.elem #[rt 167]).run Tryz.prog u=.ok (.iface 238 (rt 166)) u:=fun u=>by kernel_rfl
 have aW:∀u:World,(ReflectliteType.relation "Implements" ReflectliteType.implements_ #[rt 166,.iface 238 (rt 41)]).run Tryz.prog u=.ok (.bool true) u:=fun u=>by kernel_rfl
 have aU:∀u:World,(ReflectliteType.relation "AssignableTo" ReflectliteType.assignableTo #[rt 150,.iface 238 (rt 166)]).run Tryz.prog u=.ok (.bool false) u:=fun u=>by kernel_rfl
 have mK:=zOg
 have mE:=zOe
 have mI:=zOf
 have mA:=zOd
 have mU:∀(h:Value) (u:World),(Go.method 453 150 h "Unwrap").run Tryz.prog u=.ok (250,h) u:=fun h u=>by kernel_rfl
 have a1:∀(v:Value) (F:TypeId) (u:World),(Instr.typeAssert (.iface 150 v) F 243 true).run Tryz.prog u=.ok (.tuple #[.nilIface,.bool false]) u:=fun v F u=>run_typeAssert_lacksB Tryz.underlying243 (by kernel_rfl) (by kernel_rfl) v F u
 have a2:∀(v:Value) (F:TypeId) (u:World),(Instr.typeAssert (.iface 150 v) F 246 true).run Tryz.prog u=.ok (.tuple #[.iface 150 v,.bool true]) u:=fun v F u=>run_typeAssert_hasB Tryz.underlying246 (by kernel_rfl) v F u
 have aR:=zCv ⟨w.heap.size,0,none⟩ t (msB w t) (zEx w t)
 obtain⟨μ,hμ⟩:=zKZ
 have HM:Hid _:=hμ
 have U:Hid (∀(e:Nat) (p:Int×Int) (u:Value),w.heap[e]? =some (.cells #[.int .i64 p.1,.int .i64 p.2,u] 152 (0,0))→(msC w t).cell? ⟨e,2,none⟩=some u):=fun e p u he=>by
  have R:w.cell? ⟨e,2,none⟩=some u:=cell_of_row _ _ _ _ 152 _ he
  exact (zEz w t ⟨e,2,none⟩ (block_lt_of_cell R)).trans R
 have HE:Hid (ErrAt w v l):=X
 have hv:∃e,v=.iface 150 (.pointer (some ⟨e,0,none⟩)):=by
  cases l with
  |nil=>exact absurd rfl hl
  |cons p r=>obtain⟨e,u,R,_⟩:=X;exact⟨e,R⟩
 obtain⟨e0,rfl⟩:=hv
 clear X hμ
 dsimp only[XR,rt,rv,msA,msB,msC]at*
 go_enter Tryz.func80,Tryz.ntmps80
 go_wp2
 go_loopw [0] (fun J wr=>∃(rs:List (Int×Int)) (vv:Value),vv=J∧rs≠[]∧ErrAt w vv rs∧wr=msC w t) (fun J _=>μ w J)
 case atStart=>exact⟨l,_,rfl,hl,HE.out,rfl⟩
 case round=>
  obtain⟨rs,vv,rfl,a4,Z,Q⟩:=hrel
  rw[Q]
  clear Q
  cases rs with
  |nil=>exact absurd rfl a4
  |cons p r=>
   obtain⟨e,u,rfl,D,N⟩:=Z
   have hc:=U.out e p u D
   have W:Hid (w.heap[e]? =some (.cells #[.int .i64 p.1,.int .i64 p.2,u] 152 (0,0))):=D
   dsimp only[msA,msB,msC]at*
   clear D
   cases r with
   |nil=>
    have hu:u=.nilIface:=N
    subst hu
    go_wp2
    go_ret
    exact⟨rfl,rfl⟩
   |cons p2 r2=>
    obtain⟨G,u2,hu,k1,k2⟩:=N
    subst hu
    have j:Hid (w.heap[G]? =some (.cells #[.int .i64 p2.1,.int .i64 p2.2,u2] 152 (0,0))):=k1
    have A:Hid (ErrAt w u2 r2):=k2
    clear k1 k2
    go_wp2
    go_roundw
    case rel=>exact⟨p2::r2,_,rfl,by simp,⟨G,u2,rfl,j.out,A.out⟩,by first|rfl|trivial⟩
    case measure=>
     have a1:=HM.out w (.iface 150 (.pointer (some ⟨G,0,none⟩))) (p2::r2) ⟨G,u2,rfl,j.out,A.out⟩
     have a2:=HM.out w (.iface 150 (.pointer (some ⟨e,0,none⟩))) (p::p2::r2) ⟨e,_,rfl,W.out,G,u2,rfl,j.out,A.out⟩
     simp only[List.length_cons]at a1 a2
     show μ w (.iface 150 (.pointer (some ⟨G,0,none⟩)))<μ w (.iface 150 (.pointer (some ⟨e,0,none⟩)))
     omega
end
theorem zGe (l:List (Int×Int))(v:Value)(H:Nat→ByteArray)(w:World)(X:w.cell? ⟨1,0,none⟩=some (.iface 238 (rt 41)))(W:ErrAt w v l):Calls Tryz.prog 54 #[v] w (NmD w H 0):=by
 cases l with
 |nil=>
  have hv:v=.nilIface:=W
  subst hv
  exact zD9 H w
 |cons p r=>
  obtain⟨j,R⟩:∃j,(w.alloc (.cells #[] 9)).alloc (.cells #[.pointer none] 166)=j:=⟨_,rfl⟩
  have A:Below w.heap.size w j:=by rw[←R];exact ((Below.refl _ _).alloc (Nat.le_refl _) _).alloc (by simp) _
  have Q:j.ownsRow w.heap.size 9 1 (.slice (some ⟨w.heap.size,0,none⟩) 0 0) 0 []:=by rw[←R];exact zI (zBz w) ((Below.refl _ _).alloc (Nat.le_refl _) _)
  have N:j.cell? ⟨1,0,none⟩=some (.iface 238 (rt 41)):=(A.cell (p:=⟨1,0,none⟩) (block_lt_of_cell X)).trans X
  have D:Hid (Calls Tryz.prog 80 #[v,.iface 167 (.pointer (some ⟨w.heap.size+1,0,none⟩))] j fun ev w'=>ev=.returned (.bool false)∧Below j.heap.size j w'):=(zLM (p::r) v ⟨w.heap.size+1,0,none⟩ j N (W.below A) (by simp)).mono fun e w' h=>⟨h.1,by rw[h.2];exact (((Below.refl _ _).alloc (Nat.le_refl _) _).alloc (by simp) _).alloc (by simp;omega) _⟩
  have F:Hid _:=A
  have U:Hid (j.ownsRow w.heap.size 9 1 (.slice (some ⟨w.heap.size,0,none⟩) 0 0) 0 []):=Q
  obtain⟨tb,Z⟩:∃tb,w.heap.size+1=tb:=⟨_,rfl⟩
  rw[Z]at D
  obtain⟨e,u,rfl,_,_⟩:=W
  clear A Q N X
  go_enter Tryz.func54,Tryz.ntmps54
  go_wp2_with fail
  refine Calls.mono D.out ?_
  rintro ev w2 ⟨rfl,J⟩
  have G:Hid _:=J
  clear J
  go_wp2_with fail
  go_ret
  exact⟨_,rfl,zI U.out G.out,F.out.trans (G.out.mono F.out.size)⟩
theorem zEJ (er:Value)(l:List (Int×Int))(w:World)(D:Ge w)(A:ErrAt w er l):Calls Tryz.prog 12 #[er] w fun e w'=>e=.returned (.bool true)∧Below w.heap.size w w':=by
 have J:Hid (Calls Tryz.prog 54 #[er] w (NmD w (fun _=>⟨#[]⟩) 0)):=zGe l er (fun _=>⟨#[]⟩) w D.err A
 have G:Hid (Calls Tryz.prog 24 #[er] w fun e w'=>∃a c,e=.returned (.slice a 0 c)∧Below w.heap.size w w'):=by
  clear A D
  show Calls _ _ _ _ _
  go_enter Tryz.func24,Tryz.ntmps24
  go_wp2_with fail
  refine Calls.mono J.out ?_
  rintro e N ⟨v,rfl,F,j⟩
  obtain⟨a,c,rfl⟩:=zA F
  have u:Hid _:=j
  clear F j
  go_wp2_with fail
  go_ret
  exact⟨a,c,rfl,u.out⟩
 clear A D
 go_enter Tryz.func12,Tryz.ntmps12
 go_wp2_with fail
 refine Calls.mono G.out ?_
 rintro e N ⟨a,c,rfl,j⟩
 have u:Hid _:=j
 clear j
 go_wp2_with fail
 go_ret
 exact⟨rfl,u.out⟩
theorem zNR (kt:Nat→Int)(base h:Nat)(j:Bool)(F:List Dr)(d:Dr)(m:Nat)(N:Bk)(w:World)(H:HK kt base h j F N noZ w)(hd:d∈F)(hm:N.le m)(U:m≤10000000000):
 Calls Tryz.prog 14 #[.pointer (some ⟨h,0,none⟩),drA d,.int .i64 4] w fun e w'=>e=.returned (.bool true)∧HSt kt base h j F (m+5) w w':=by
 obtain⟨W,R⟩:∃W,w.alloc (.cells (drC d) 53)=W:=⟨_,rfl⟩
 have D:Below w.heap.size w W:=by rw[←R];exact (Below.refl _ _).alloc (Nat.le_refl _) _
 have u:W.heap[w.heap.size]? =some (.cells (drC d) 53 (0,0)):=by rw[←R];exact heap_alloc_new _ _
 have G:=H.low D
 obtain⟨Q,A⟩:∃x,w.heap.size=x:=⟨_,rfl⟩
 rw[A]at u
 have HH:Hid _:=H
 have J:Hid _:=D
 have a6:Hid _:=u
 have a4:Hid _:=G
 have HF:Hid _:=H.fit d hd
 have Z:Hid (w.heap.size=Q):=A
 have c0:W.cell? ⟨Q,0,none⟩=some (.pointer (some ⟨d.v,0,none⟩)):=cell_of_row _ _ _ _ 53 _ u
 have c1:W.cell? ⟨Q,1,none⟩=some (.pointer (some ⟨d.y,0,none⟩)):=cell_of_row _ _ _ _ 53 _ u
 unfold drC at R
 unfold drA
 have HV:Hid (Calls Tryz.prog 35 #[.pointer (some ⟨h,0,none⟩),.agg #[.pointer (some ⟨d.v,0,none⟩),.pointer (some ⟨d.y,0,none⟩)]] W fun e w'=>e=.returned (.bool true)∧HSt kt base h j F (m+5) W w'):=zLo kt base h j F d m N W G hd hm U
 clear H D u G
 go_enter Tryz.func14,Tryz.ntmps14
 go_wp2_with fail
 refine Calls.mono HV.out ?_
 rintro e W1 ⟨rfl,X⟩
 have HE:Hid _:=X.pre (J.out.mono HH.out.bw)
 clear X
 go_wp2_with fail
 go_ret
 exact⟨rfl,HE.out⟩
theorem zNS (kt:Nat→Int)(base h:Nat)(j:Bool)(F:List Dr)(d:Dr)(m:Nat)(N:Bk)(w:World)(H:HK kt base h j F N noZ w)(hd:d∈F)(hm:N.le m)(U:m≤10000000000):
 Calls Tryz.prog 14 #[.pointer (some ⟨h,0,none⟩),drA d,.int .i64 5] w fun e w'=>e=.returned (.bool true)∧HSt kt base h j F (m+5) w w':=by
 obtain⟨W,R⟩:∃W,w.alloc (.cells (drC d) 53)=W:=⟨_,rfl⟩
 have D:Below w.heap.size w W:=by rw[←R];exact (Below.refl _ _).alloc (Nat.le_refl _) _
 have u:W.heap[w.heap.size]? =some (.cells (drC d) 53 (0,0)):=by rw[←R];exact heap_alloc_new _ _
 have G:=H.low D
 obtain⟨Q,A⟩:∃x,w.heap.size=x:=⟨_,rfl⟩
 rw[A]at u
 have HH:Hid _:=H
 have J:Hid _:=D
 have a6:Hid _:=u
 have a4:Hid _:=G
 have HF:Hid _:=H.fit d hd
 have Z:Hid (w.heap.size=Q):=A
 have c0:W.cell? ⟨Q,0,none⟩=some (.pointer (some ⟨d.v,0,none⟩)):=cell_of_row _ _ _ _ 53 _ u
 have c1:W.cell? ⟨Q,1,none⟩=some (.pointer (some ⟨d.y,0,none⟩)):=cell_of_row _ _ _ _ 53 _ u
 unfold drC at R
 unfold drA
 have HV:Hid (Calls Tryz.prog 36 #[.pointer (some ⟨h,0,none⟩),.agg #[.pointer (some ⟨d.v,0,none⟩),.pointer (some ⟨d.y,0,none⟩)]] W fun e w'=>e=.returned (.bool true)∧HSt kt base h j F (m+5) W w'):=zLm kt base h j F d m N W G hd hm U
 clear H D u G
 go_enter Tryz.func14,Tryz.ntmps14
 go_wp2_with fail
 refine Calls.mono HV.out ?_
 rintro e W1 ⟨rfl,X⟩
 have HE:Hid _:=X.pre (J.out.mono HH.out.bw)
 clear X
 go_wp2_with fail
 go_ret
 exact⟨rfl,HE.out⟩
theorem zO0 (kt:Nat→Int)(base h:Nat)(j:Bool)(A:List Dr):zOi kt base h j A 6:=fun k hk d hd m D X H F u=>by
 match k,hk with
 |0,_=>exact zOw kt base h j A d m D X H hd F
 |1,_=>exact zOx kt base h j A d m D X H hd F
 |2,_=>exact zOy kt base h j A d m D X H hd F u
 |3,_=>exact zOz kt base h j A d m D X H hd F u
 |4,_=>exact zNR kt base h j A d m D X H hd F u
 |5,_=>exact zNS kt base h j A d m D X H hd F u
theorem zFD (kt:Nat→Int)(L1 L2:Nat→ByteArray)(r1 r2:ByteArray)(A:Nat→Int)(a1 Z a:Option Addr)(U c1 R c2 n J:Nat)(w:World)(h8:8≤w.heap.size)(hG:Glb kt w)(aW:U≤100000000)(aX:R≤100000000)(hn:n≤100000000)(a7:∀i,i<U→(L1 i).size≤140737488351232)(a8:∀i,i<R→(L2 i).size≤140737488351232)(a9:RawT w a1 U c1 L1)(aA:RawT w Z R c2 L2)(hR:RawI w.heap.size w a n A):
 Calls Tryz.prog 3 #[.slice a1 U c1,.string r1,.slice Z R c2,.string r2,.slice a n J] w fun e w'=>e=.returned (.bool true)∧Below w.heap.size w w':=by
 obtain⟨W,hW⟩:∃W,w.alloc (.cells #[.slice none 0 0,.int .i64 0,.slice none 0 0,.slice none 0 0,.slice none 0 0,.slice none 0 0,.bool true] 33)=W:=⟨_,rfl⟩
 have D:Below w.heap.size w W:=by rw[←hW];exact (Below.refl _ _).alloc (Nat.le_refl _) _
 have Q:W.heap[w.heap.size]? =some (.cells #[.slice none 0 0,.int .i64 0,.slice none 0 0,.slice none 0 0,.slice none 0 0,.slice none 0 0,.bool true] 33 (0,0)):=by rw[←hW];exact heap_alloc_new _ _
 obtain⟨h,j⟩:∃x,w.heap.size=x:=⟨_,rfl⟩
 have HH:Hid (HK kt h h true [] ⟨0,[],[],[],[]⟩ noZ W):=by
  rw[j]at Q h8
  exact HK.empty h8 (hG.low h8 (by rw[←j];exact D)) (Nat.le_refl _) (by rw[←j];exact D.size) Q
 have aL:Hid (Below h w W):=by rw[←j];exact D
 have HO:Hid (Calls Tryz.prog 4 #[.pointer (some ⟨h,0,none⟩),.slice a1 U c1,.string r1] W fun e w'=>e=.returned (.bool true)∧Below h W w'∧∃u,HK kt h h true u ⟨0,[],[],[],[]⟩ noZ w'∧(u=[]∨∃d,u=[]++[d])):=zKk kt h h true [] _ r1 L1 a1 U c1 W HH.out (fun _ er l X hg hE _=>zEJ er l X hg hE) aW a7 (a9.low D) (by simp)
 have aP:Hid (∀X:World,Below h w X→RawT X Z R c2 L2):=fun X hX=>aA.low (by rw[j];exact hX)
 have HR:Hid (RawI h w a n A):=by rw[j]at hR;exact hR
 have aM:Hid _:=a8
 have b2:Hid (w.heap.size=h):=j
 rw[j]
 clear D Q a9 aA hR a7 a8 hG
 go_enter Tryz.func3,Tryz.ntmps3
 go_wp2_with fail
 refine Calls.mono HO.out ?_
 rintro e w1 ⟨rfl,aB,F,a5,aE⟩
 have N:Below h w w1:=aL.out.trans aB
 have b5:F.length≤1:=by rcases aE with rfl|⟨d,rfl⟩<;>simp
 have aN:Hid (Calls Tryz.prog 4 #[.pointer (some ⟨h,0,none⟩),.slice Z R c2,.string r2] w1 fun e w'=>e=.returned (.bool true)∧Below h w1 w'∧∃u,HK kt h h true u ⟨0,[],[],[],[]⟩ noZ w'∧(u=F∨∃d,u=F++[d])):=zKk kt h h true F _ r2 L2 Z R c2 w1 a5 (fun _ er l X hg hE _=>zEJ er l X hg hE) aX aM.out (aP.out w1 N) (by omega)
 have aJ:Hid _:=N
 clear aB a5 aE N
 go_wp2_with fail
 refine Calls.mono aN.out ?_
 rintro e w2 ⟨rfl,aC,G,a6,aF⟩
 have a4:Below h w w2:=aJ.out.trans aC
 have aV:G.length≤2:=by
  rcases aF with rfl|⟨d,rfl⟩
  ·omega
  ·rw[List.length_append,List.length_singleton];omega
 have aO:Hid (Calls Tryz.prog 5 #[.pointer (some ⟨h,0,none⟩),.slice a n J,.int .i64 (6:Nat)] w2 fun e w'=>e=.returned (.bool true)∧∃m,HSt kt h h true G m w w'):=zNV kt h h true G 6 A a n J w w2 ⟨_,a6,⟨Nat.le_refl _,Nat.le_refl _,Nat.le_refl _,Nat.le_refl _,Nat.le_refl _⟩,a4⟩ (zO0 kt h h true G) (by omega) (by omega) aV hn HR.out
 clear aC a6 aF a4
 go_wp2_with fail
 refine Calls.mono aO.out ?_
 rintro e w3 ⟨rfl,m,bk,_,_,aD⟩
 have aK:Hid _:=aD
 clear aD
 go_wp2_with fail
 go_ret
 exact⟨rfl,aK.out⟩
end Go.Proofs.YtlopecgkiikdhaaGreatDoor
