import Derived.Test.YtlopecgkiikdhaaGreatDoorX40
import Derived.Test.YtlopecgkiikdhaaGreatDoorX42
namespace Go.Proofs.YtlopecgkiikdhaaGreatDoor
open Go.RowKit
set_option maxRecDepth 100000
set_option maxHeartbeats 4000000
theorem zHx (l:List UInt8)(b:ByteArray):(⟨l.toArray⟩:ByteArray)++b=⟨(l++b.data.toList).toArray⟩:=by
 apply zHF
 simp
theorem zDN (l:List UInt8):(⟨l.toArray⟩:ByteArray).size=l.length:=by simp[ByteArray.size]
theorem zNZ:(Tryz.prog.info? 3).map (fun i=>(i.zero,i.size,i.bytes))=some (some (.int .i64 0),1,8):=by kernel_rfl
def pmC (T:TT):Array Value:= #[.int .i64 (T.L.K:Nat),.int .i64 (T.L.M:Nat),.int .i64 (T.L.C:Nat),.int .i64 (T.L.V:Nat)]
structure AL (kt:Nat→Int)(T:TT)(bl:Nat→ByteArray)(w:World)(pb s:Nat)(vk vb:Value)(wr:World):Prop where
 pr:wr.heap[pb]? =some (.cells (pmC T) 81 (0,0))
 ok:wr.ownsRow w.heap.size 3 1 vk s (unV (zGV kt T bl s))
 ob:OwnT wr w.heap.size vb (zDm kt T bl s)
 bel:Below w.heap.size w wr
theorem AL.low {kt:Nat→Int}{T:TT}{bl:Nat→ByteArray}{w:World}{pb s:Nat}{vk vb:Value}{wr w':World}(H:AL kt T bl w pb s vk vb wr)(hb:Below wr.heap.size wr w'):AL kt T bl w pb s vk vb w':=
 ⟨(hb.block _ (Array.getElem?_eq_some_iff.1 H.pr).1).trans H.pr,zD H.ok (fun q j=>hb.block q (zG H.ok q j)),H.ob.below hb,H.bel.trans (hb.mono H.bel.size)⟩
theorem AL.app {kt:Nat→Int}{T:TT}{bl:Nat→ByteArray}{w:World}{pb s:Nat}{vk vb o:Value}{wr R:World}(H:AL kt T bl w pb s vk vb wr)(hb:Below wr.heap.size wr R)(ho:(stF kt T bl s=0∧R.ownsRow wr.heap.size 9 1 o T.n (tV (stM kt T bl s) T.n))∨(stF kt T bl s≠0∧o=.slice none 0 0))(hs:s≤512)(hn:T.n≤255)(b2:s*T.n≤512):
 ∃v' G v2 w3,(Builtin.append_ #[23,23] 23 #[vk,.slice (some ⟨R.heap.size,0,none⟩) 1 1]).run Tryz.prog (R.alloc (.cells #[.int .i64 (stF kt T bl s:Nat)] 3))=.ok v' G∧(Builtin.append_ #[22,22] 22 #[vb,o]).run Tryz.prog G=.ok v2 w3∧AL kt T bl w pb (s+1) v' v2 w3∧(stF kt T bl s=0→0<T.n→∃g c,o=.slice (some ⟨g,0,none⟩) T.n c∧∀i,i<T.n→w3.cell? ⟨g,i,none⟩=some (.string (stM kt T bl s i))):=by
 obtain⟨i0,aT,z0,z1,z2⟩:=info_parts zNZ
 obtain⟨X,hX⟩:∃X,R.alloc (.cells #[.int .i64 (stF kt T bl s:Nat)] 3)=X:=⟨_,rfl⟩
 have aH:Below R.heap.size R X:=by rw[←hX];exact (Below.refl _ _).alloc (Nat.le_refl _) _
 have Z:Below wr.heap.size wr X:=hb.trans (aH.mono hb.size)
 have a9:Below w.heap.size w X:=H.bel.trans (Z.mono H.bel.size)
 have aL:X.ownsRow R.heap.size 3 1 (.slice (some ⟨R.heap.size,0,none⟩) 1 1) 1 [.int .i64 (stF kt T bl s:Nat)]:=by
  rw[←hX]
  exact⟨rfl,.inr ⟨R.heap.size,1,#[.int .i64 (stF kt T bl s:Nat)],rfl,Nat.le_refl _,heap_alloc_new _ _,Nat.le_refl _,by unfold maxLen;omega,rfl,rfl⟩⟩
 have hk:X.ownsRow w.heap.size 3 1 vk s (unV (zGV kt T bl s)):=zD H.ok (fun q U=>Z.block q (zG H.ok q U))
 have aV:OwnT X w.heap.size vb (zDm kt T bl s):=H.ob.below Z
 have aM:X.heap[pb]? =some (.cells (pmC T) 81 (0,0)):=(Z.block _ (Array.getElem?_eq_some_iff.1 H.pr).1).trans H.pr
 obtain⟨v',G,a7,N,hg,_⟩:=zV 23 Tryz.underlying23 aT z0 z1 z2 rfl (by decide) hk aL (by intro u hu;simp at hu;subst hu;rfl) (by omega) (by omega) a9.size
 have a4:∀(j:Nat) (cs:Array Value) (t:TypeId),X.heap[j]? =some (.cells cs t (0,0))→t≠3→G.heap[j]? =some (.cells cs t (0,0)):=fun j cs t Q ht=>by
  rw[hg.block j (Array.getElem?_eq_some_iff.1 Q).1 (fun e=>by
   obtain⟨cur,aI⟩:=zB hk j e.symm
   exact zE Q aI ht rfl)]
  exact Q
 have W:Below w.heap.size w G:=a9.grown hg a9.size (fun y hy=>zK hk y hy)
 have D:OwnT G w.heap.size vb (zDm kt T bl s):=zF aV (fun j cs _ Q=>a4 j cs 9 Q (by decide))
 have aZ:=zFN (kt:=kt) (T:=T) (bl:=bl) s
 have aJ:unV (zGV kt T bl (s+1))=unV (zGV kt T bl s)++[.int .i64 (stF kt T bl s:Nat)]:=by unfold zGV;rw[List.range_succ];simp[unV]
 rcases ho with ⟨h0,ho⟩|⟨h0,rfl⟩
 ·have aU:OwnT R wr.heap.size o ((List.range T.n).map (stM kt T bl s)):=by
   unfold OwnT
   rw[List.length_map,List.length_range]
   have e:txs ((List.range T.n).map (stM kt T bl s))=tV (stM kt T bl s) T.n:=by simp[txs,tV,List.map_map]
   rw[e]
   exact ho
  have a6:OwnT G wr.heap.size o ((List.range T.n).map (stM kt T bl s)):=zF (aU.below aH) (fun j cs _ Q=>a4 j cs 9 Q (by decide))
  obtain⟨v2,w3,aF,aE,aD,aA,_⟩:=D.cat a6 (by rw[List.length_map,List.length_range];omega) W.size
  have A:∀(j:Nat),j<G.heap.size→vb.ownBlock≠some j→w3.heap[j]? =G.heap[j]? :=fun j Q e=>aD.block j Q (fun e2=>e e2.symm)
  refine⟨v',G,v2,w3,by rw[hX];exact a7,aF,⟨?_,?_,?_,aA w (Nat.le_refl _) W rfl⟩,fun _ aK=> ?_⟩
  ·have J:=a4 _ _ _ aM (by decide)
   rw[A pb (Array.getElem?_eq_some_iff.1 J).1 (fun e=>by
    obtain⟨c,hc⟩:=zB D pb e
    exact zE J hc (by decide) rfl)]
   exact J
  ·rw[aJ]
   refine zD N (fun q U=>A q (zG N q U) (fun e=> ?_))
   obtain⟨c,hc⟩:=zB D q e
   obtain⟨c2,aC⟩:=zB N q U
   exact zE hc aC (by decide) rfl
  ·rw[zDm,if_pos h0];exact aE
  ·obtain⟨g,c,rfl,b0,b1,hC⟩:=zAb (ho) aK
   refine⟨g,c,rfl,fun i hi=> ?_⟩
   have J:G.ownsRow wr.heap.size 9 1 (.slice (some ⟨g,0,none⟩) T.n c) T.n (tV (stM kt T bl s) T.n):=by
    have h2:=a6
    unfold OwnT at h2
    rw[List.length_map,List.length_range]at h2
    have e:txs ((List.range T.n).map (stM kt T bl s))=tV (stM kt T bl s) T.n:=by simp[txs,tV,List.map_map]
    rw[e]at h2
    exact h2
   have h3:=zD J (fun q U=>A q (zG J q U) (fun e=>by
    have a1:=zK J q U
    have a2:=zG H.ob q e
    omega))
   obtain⟨g',c',e',_,_,aS⟩:=zAb h3 aK
   cases e'
   exact aS i hi
 ·obtain⟨v2,w3,aF,aE,aD,aA,_⟩:=D.cat (OwnT.nil G G.heap.size) (by simp;omega) W.size
  have A:∀(j:Nat),j<G.heap.size→vb.ownBlock≠some j→w3.heap[j]? =G.heap[j]? :=fun j Q e=>aD.block j Q (fun e2=>e e2.symm)
  refine⟨v',G,v2,w3,by rw[hX];exact a7,aF,⟨?_,?_,?_,aA w (Nat.le_refl _) W rfl⟩,fun J=>absurd J h0⟩
  ·have J:=a4 _ _ _ aM (by decide)
   rw[A pb (Array.getElem?_eq_some_iff.1 J).1 (fun e=>by
    obtain⟨c,hc⟩:=zB D pb e
    exact zE J hc (by decide) rfl)]
   exact J
  ·rw[aJ]
   refine zD N (fun q U=>A q (zG N q U) (fun e=> ?_))
   obtain⟨c,hc⟩:=zB D q e
   obtain⟨c2,aC⟩:=zB N q U
   exact zE hc aC (by decide) rfl
  ·rw[zDm,if_neg h0];exact aE
def zEb (kt:Nat→Int)(T:TT)(bl:Nat→ByteArray)(s:Nat):ByteArray:=⟨(zF7 kt T bl s).toArray⟩
def RAl (kt:Nat→Int)(T:TT)(bl:Nat→ByteArray)(w:World)(e:Ending)(w':World):Prop:=
 ∃vk vb,e=.returned (.tuple #[vk,.string (zEb kt T bl T.L.ns),vb])∧Below w.heap.size w w'∧w'.ownsRow w.heap.size 3 1 vk T.L.ns (unV (zGV kt T bl T.L.ns))∧OwnT w' w.heap.size vb (zDm kt T bl T.L.ns)
theorem zPk (kt:Nat→Int)(B v:Nat)(vH vU:Value)(hp:List (ByteArray×Nat))(un:List Nat)(t0:ByteArray)(w:World)(H:RB kt B v vH vU hp un w)(hS:RSet kt t0 (hp.map Prod.fst))(hG:Gr kt w)(hl:hp.length≤100000000):
 Calls Tryz.prog 89 #[.pointer (some ⟨v,0,none⟩)] w fun e w'=>RAl kt (tT t0) (blH (hp.map Prod.fst)) w e w':=by
 have hT:zt (tT t0):=zAz (zY (hS.rd t0 hS.mem0)).2.1
 obtain⟨bl,aC⟩:∃x,blH (hp.map Prod.fst)=x:=⟨_,rfl⟩
 obtain⟨T,a2⟩:∃x,tT t0=x:=⟨_,rfl⟩
 have a8:Hid (∀X:World,Below w.heap.size w X→Calls Tryz.prog 86 #[.pointer (some ⟨v,0,none⟩)] X fun e w'=>e=.returned (.int .i64 ((tT t0).L.ns:Nat))∧Below X.heap.size X w'):=fun X hX=>zF6 kt B v _ vU hp un t0 X (H.low hX) hS
 have a9:Hid (∀(X:World) (s:Nat),Below w.heap.size w X→s<(tT t0).L.ns→Calls Tryz.prog 87 #[.pointer (some ⟨v,0,none⟩),.int .i64 s] X fun e w'=>StD kt (tT t0) (blH (hp.map Prod.fst)) s X e w'):=fun X s hX hs=>zIW kt B v _ vU hp un t0 s X (H.low hX) hS (hG.below hX) hs hl
 rw[aC,a2]at a9
 rw[a2]at a8 hT
 obtain⟨h0,g0,cH,rfl,hm,c0,c1,hh⟩:=H.top hS
 obtain⟨d0,d1,d2,d3⟩:=hh.nums
 rw[a2]at d0 d1 d2 d3
 rw[aC,a2]
 have aZ:=hT.k1;have aE:=hT.km;have bG:=hT.c1;have G:=hT.c64;have a5:=hT.cnt
 have a4:T.n=T.L.K+T.L.M:=rfl
 have b2:T.L.ns*T.n≤512:=a5
 have b3:T.L.ns≤512:=by
  have h1:T.L.ns*1≤T.L.ns*T.n:=Nat.mul_le_mul_left _ (by omega)
  omega
 obtain⟨m,bM⟩:∃x,hp.length=x:=⟨_,rfl⟩
 rw[bM]at c0 hm
 have cM:(0:Int)<(m:Int):=by omega
 obtain⟨K,hK⟩:∃x,T.L.K=x:=⟨_,rfl⟩
 obtain⟨C,hC⟩:∃x,T.L.C=x:=⟨_,rfl⟩
 obtain⟨M,hM⟩:∃x,T.L.M=x:=⟨_,rfl⟩
 obtain⟨V,hV⟩:∃x,T.L.V=x:=⟨_,rfl⟩
 have bB:Hid (AL kt T bl w w.heap.size 0 (.slice none 0 0) (.slice none 0 0) (w.alloc (.cells #[.int .i64 K,.int .i64 M,.int .i64 C,.int .i64 V] 81))):=by
  show AL _ _ _ _ _ _ _ _ _
  rw[←hK,←hC,←hM,←hV]
  exact⟨heap_alloc_new _ _,zBZ _ _,OwnT.nil _ _,(Below.refl _ _).alloc (Nat.le_refl _) _⟩
 obtain⟨ns,b1⟩:∃x,T.L.ns=x:=⟨_,rfl⟩
 have aQ:Hid _:=H
 have bD:Hid (∀(s:Nat) (vk vb:Value) (X:World),AL kt T bl w w.heap.size s vk vb X→X.cell? ⟨w.heap.size,0,none⟩=some (.int .i64 K)∧X.cell? ⟨w.heap.size,2,none⟩=some (.int .i64 C)):=fun s vk vb X hX=>by
  rw[←hK,←hC]
  exact⟨cell_of_row _ _ _ _ 81 _ hX.pr,cell_of_row _ _ _ _ 81 _ hX.pr⟩
 have HK:Hid (T.L.K=K):=hK
 have HC:Hid (T.L.C=C):=hC
 have a6:Hid (T.L.ns=ns):=b1
 rw[b1]at a8 a9 b2 b3
 rw[hK]at aZ aE d0 a4
 rw[hC]at bG G d2
 rw[hM]at d1 aE a4
 rw[hV]at d3
 have J:Hid (T.n=K+M):=a4
 clear H hS hG hl hT aC hh a5 a4
 go_enter Tryz.func89,Tryz.ntmps89
 go_wp2_with fail
 go_loopw [6,7,8,9] (fun kv bv sv U wr=>∃(s:Nat) (vk vb:Value),s≤ns∧vk=kv∧vb=bv∧U=.int .i64 s∧sv=.string (zEb kt T bl s)∧AL kt T bl w w.heap.size s vk vb wr) (fun _ _ _ U _=>ns-(intOf U).toNat)
 case atStart=>exact⟨0,_,_,by omega,rfl,rfl,rfl,rfl,bB.out⟩
 case round=>
  obtain⟨s,vk,vb,hs,rfl,rfl,rfl,rfl,hA⟩:=hrel
  have HA:Hid (AL kt T bl w w.heap.size s vk vb wr):=hA
  clear hA
  go_wp2_with fail
  refine Calls.mono (a8.out _ HA.out.bel) ?_
  rintro e w1 ⟨rfl,aW⟩
  have A:Hid (AL kt T bl w w.heap.size s vk vb w1):=HA.out.low aW
  clear aW
  by_cases bL:s<ns
  ·have b0:(s:Int)<(ns:Int):=by omega
   go_wp2_with fail
   refine Calls.mono (a9.out _ s A.out.bel bL) ?_
   rintro e w2 ⟨o,rfl,aB,hc⟩
   have aH:s*T.n≤512:=Nat.le_trans (Nat.mul_le_mul_right _ hs) b2
   obtain⟨v',X2,v2,X3,aF,aG,a1,aD⟩:=A.out.app aB hc (by omega) (by rw[J.out];exact aE) aH
   have W:Hid _:=aF
   have aR:Hid _:=aG
   have aP:Hid (AL kt T bl w w.heap.size (s+1) v' v2 X3):=a1
   obtain⟨p0,p2⟩:=bD.out _ _ _ _ a1
   have bP:(zF7 kt T bl s).length≤10000000:=by
    rw[zAP,HK.out,HC.out]
    have h1:K*C≤255*64:=Nat.mul_le_mul (by omega) G
    have h2:s*(K*C)≤512*(255*64):=Nat.mul_le_mul (by omega) h1
    omega
   obtain⟨D,N⟩:∃x,zF7 kt T bl s=x:=⟨_,rfl⟩
   have aS:Hid (zF7 kt T bl s=D):=N
   rw[N]at bP
   have aI:zEb kt T bl s=⟨D.toArray⟩:=by unfold zEb;rw[N]
   rw[aI]
   by_cases hf:stF kt T bl s=0
   ·obtain⟨g,c,rfl,Q⟩:=aD hf (by rw[J.out];omega)
    have bE:Hid _:=Q
    have aT:Hid (∀i,i<K→(stM kt T bl s i).size=C):=fun i hi=>by rw[←HC.out];exact zBe hf (by rw[J.out];omega)
    have a7:Hid (zEb kt T bl (s+1)=⟨(D++jL (stM kt T bl s) K).toArray⟩):=by
     show _=_
     unfold zEb
     rw[zF7,if_pos hf,aS.out,HK.out]
    rw[hf]at W ⊢
    clear aB hc aF aG a1 aD Q aI N hf HA A aQ
    go_wp2_with (at_builtin;first|refine zJ rfl (.tmp 35) (.tmp 37) 23 rfl _ _ _ (by simp[Act.eval]) (by simp[Act.eval]) _ W.out ?_|refine zJ rfl (.tmp 39) (.tmp 40) 22 rfl _ _ _ (by simp[Act.eval]) (by simp[Act.eval]) _ aR.out ?_)
    go_loopw [8,12] (fun sv U wx=>∃i:Nat,i≤K∧U=.int .i64 i∧sv=.string ⟨(D++jL (stM kt T bl s) i).toArray⟩∧wx=X3) (fun _ U _=>K-(intOf U).toNat)
    case atStart=>exact⟨0,by omega,rfl,by simp[jL],rfl⟩
    case round=>
     obtain⟨i,hi,rfl,rfl,u⟩:=hrel
     rw[u]
     clear u
     by_cases aX:i<K
     ·have R:(i:Int)<(K:Int):=by omega
      have cE:(0:Int)≤(i:Int):=by omega
      have cF:(i:Int)<(T.n:Int):=by have:=J.out;omega
      have bH:=bE.out i (by have:=J.out;omega)
      have bK:(jL (stM kt T bl s) i).length≤100000:=by
       rw[zHh _ C i (fun j hj=>aT.out j (by omega))]
       have:=Nat.mul_le_mul (show i≤255 by omega) G
       omega
      have bS:=aT.out i aX
      obtain⟨Y,hY⟩:∃Y,stM kt T bl s i=Y:=⟨_,rfl⟩
      have HZ:Hid ((⟨(D++jL (stM kt T bl s) (i+1)).toArray⟩:ByteArray)=(⟨(D++jL (stM kt T bl s) i).toArray⟩:ByteArray)++Y):=by
       show _=_
       rw[zHx,←hY]
       congr 2
       rw[List.append_assoc]
       congr 1
       simp[jL,List.range_succ]
      have aL:(⟨(D++jL (stM kt T bl s) i).toArray⟩:ByteArray).size≤10200000:=by rw[zDN,List.length_append];omega
      obtain⟨Z,hZ⟩:∃Z:ByteArray,(⟨(D++jL (stM kt T bl s) i).toArray⟩:ByteArray)=Z:=⟨_,rfl⟩
      rw[hY]at bH bS
      rw[hZ]at HZ aL ⊢
      have b4:Z.size+Y.size≤9223372036854775807:=by omega
      have aJ:¬ 9223372036854775807<Z.size+Y.size:=by omega
      have aK:¬Z.size+Y.size>9223372036854775807:=by omega
      clear hY hZ bK
      go_wp2_with fail
      go_roundw
      case rel=>exact⟨i+1,by omega,by go_num,by rw[HZ.out],by first|rfl|trivial⟩
      case measure=>simp[intOf];omega
     ·obtain rfl:i=K:=by omega
      have R:¬(i:Int)<(i:Int):=by omega
      rw[←a7.out]
      go_wp2_with fail
      go_roundw
      case rel=>exact⟨s+1,_,_,by omega,rfl,rfl,by go_num,rfl,aP.out⟩
      case measure=>simp[intOf];omega
   ·obtain⟨k,hk⟩:∃k,stF kt T bl s=k:=⟨_,rfl⟩
    have cJ:((k:Int) == 0)=false:=by simp;omega
    have aZ:¬(k:Int)=0:=by omega
    have cK:¬k=0:=by omega
    have ho:o=.slice none 0 0:=by
     rcases hc with ⟨h,_⟩|⟨_,h⟩
     ·exact absurd h hf
     ·exact h
    subst ho
    have a7:Hid (zEb kt T bl (s+1)=⟨(D++List.replicate (K*C) 0).toArray⟩):=by
     show _=_
     unfold zEb
     rw[zF7,if_neg hf,aS.out,HK.out,HC.out]
    rw[hk]at W ⊢
    clear aB hc aF aG a1 aD aI N hf hk HA A aQ
    go_wp2_with (at_builtin;first|refine zJ rfl (.tmp 35) (.tmp 37) 23 rfl _ _ _ (by simp[Act.eval]) (by simp[Act.eval]) _ W.out ?_|refine zJ rfl (.tmp 39) (.tmp 40) 22 rfl _ _ _ (by simp[Act.eval]) (by simp[Act.eval]) _ aR.out ?_)
    go_loopw [8,12] (fun sv U wx=>∃i:Nat,i≤K∧U=.int .i64 i∧sv=.string ⟨(D++List.replicate (i*C) 0).toArray⟩∧wx=X3) (fun _ U _=>K-(intOf U).toNat)
    case atStart=>exact⟨0,by omega,rfl,by simp,rfl⟩
    case round=>
     obtain⟨i,hi,rfl,rfl,u⟩:=hrel
     rw[u]
     clear u
     by_cases aX:i<K
     ·have R:(i:Int)<(K:Int):=by omega
      have bJ:i*C≤255*64:=Nat.mul_le_mul (by omega) G
      obtain⟨q,hq⟩:∃q,i*C=q:=⟨_,rfl⟩
      have HQ:Hid ((i+1)*C=q+C):=by show _=_;rw[Nat.succ_mul,hq]
      rw[hq]at bJ ⊢
      clear hq
      go_wp2_with fail
      go_loopw [8,13] (fun sv jv wx=>∃j:Nat,j≤C∧jv=.int .i64 j∧sv=.string ⟨(D++List.replicate (q+j) 0).toArray⟩∧wx=X3) (fun _ jv _=>C-(intOf jv).toNat)
      case atStart=>exact⟨0,by omega,rfl,rfl,rfl⟩
      case round=>
       obtain⟨j,hj,rfl,rfl,u⟩:=hrel
       rw[u]
       clear u
       by_cases cI:j<C
       ·have aY:(j:Int)<(C:Int):=by omega
        have HZ:Hid ((⟨(D++List.replicate (q+(j+1)) 0).toArray⟩:ByteArray)=(⟨(D++List.replicate (q+j) 0).toArray⟩:ByteArray)++⟨#[0]⟩):=by
         show _=_
         rw[zHx,List.append_assoc,←Nat.add_assoc,List.replicate_succ']
        have aL:(⟨(D++List.replicate (q+j) 0).toArray⟩:ByteArray).size≤10200000:=by rw[zDN,List.length_append,List.length_replicate];omega
        obtain⟨Z,hZ⟩:∃Z:ByteArray,(⟨(D++List.replicate (q+j) 0).toArray⟩:ByteArray)=Z:=⟨_,rfl⟩
        rw[hZ]at HZ aL ⊢
        have b4:Z.size+(⟨#[0]⟩:ByteArray).size≤9223372036854775807:=by have:(⟨#[0]⟩:ByteArray).size=1:=rfl;omega
        have aJ:¬ 9223372036854775807<Z.size+(⟨#[0]⟩:ByteArray).size:=by omega
        have aK:Z.size+1≤9223372036854775807:=by omega
        have bQ:¬ 9223372036854775807<Z.size+1:=by omega
        clear hZ
        go_wp2_with fail
        go_roundw
        case rel=>exact⟨j+1,by omega,by go_num,by rw[HZ.out],by first|rfl|trivial⟩
        case measure=>simp[intOf];omega
       ·obtain rfl:j=C:=by omega
        have aY:¬(j:Int)<(j:Int):=by omega
        go_wp2_with fail
        go_roundw
        case rel=>exact⟨i+1,by omega,by go_num,by rw[HQ.out],by first|rfl|trivial⟩
        case measure=>simp[intOf];omega
     ·obtain rfl:i=K:=by omega
      have R:¬(i:Int)<(i:Int):=by omega
      rw[←a7.out]
      go_wp2_with fail
      go_roundw
      case rel=>exact⟨s+1,_,_,by omega,rfl,rfl,by go_num,rfl,aP.out⟩
      case measure=>simp[intOf];omega
  ·obtain rfl:s=ns:=by omega
   have b0:¬(s:Int)<(s:Int):=by omega
   clear HA
   go_wp2_with fail
   go_ret3
   refine⟨vk,vb,congrArg (fun n=>Ending.returned (.tuple #[vk,.string (zEb kt T bl n),vb])) a6.out.symm,A.out.bel,?_,?_⟩
   ·rw[a6.out];exact A.out.ok
   ·rw[a6.out];exact A.out.ob
def zOh (kt:Nat→Int)(B k g p q f:Nat)(T:TT)(un:Value)(ul:List Nat)(rd:Nat→Bool)(bl:Nat→ByteArray)(w:World)(v l:Value)(F:Nat→Ob)(n:Nat)(H:Nat→ByteArray)(m:Nat)(w':World):Prop:=
 (∃(dn':Nat→Bool) (zs':Nat→Nat) (bd':Nat→Value),VS kt B k g p q f T un ul rd bl dn' zs' bd' w')∧Fr (fun j=>j=q∨j=f) w w'∧OwnF w' w.heap.size v n F∧zEZ F n=zEa kt T bl T.L.es.length∧w'.ownsRow w.heap.size 9 1 l m (tV H m)∧zh H m=zA5 kt T bl T.L.es.length
theorem zFw (kt:Nat→Int)(B k g p q f:Nat)(T:TT)(un:Value)(ul:List Nat)(rd:Nat→Bool)(bl:Nat→ByteArray)(dn:Nat→Bool)(zs:Nat→Nat)(bd:Nat→Value)(w:World)(h:VS kt B k g p q f T un ul rd bl dn zs bd w)(hT:zt T)(bG:T.L.es.length≤16∧zM T.L.es≤4096)(hG:Gd kt w)(hB:B≤w.heap.size):
 Calls Tryz.prog 124 #[.pointer (some ⟨k,0,none⟩)] w fun e w'=>∃v l F n H m,e=.returned (.tuple #[v,l])∧zOh kt B k g p q f T un ul rd bl w v l F n H m w':=by
 have H:Hid _:=h
 obtain⟨aE,kE,num,first,vB,hg,bJ⟩:=h.hd
 have c0:w.cell? ⟨k,0,none⟩=some (.pointer (some ⟨g,0,none⟩)):=cell_of_row _ _ _ _ 114 _ h.row
 obtain⟨ne,aG⟩:∃x,T.L.es.length=x:=⟨_,rfl⟩
 have c6:w.cell? ⟨g,6,none⟩=some (.slice aE ne kE):=by rw[←aG];exact cell_of_row _ _ _ _ 157 _ hg
 have bY:Hid (∀(X:World),Fr (fun j=>j=q∨j=f) w X→∀j,j<ne→∃b,aE=some ⟨b,0,none⟩∧b<X.heap.size∧X.cell? ⟨b,j*2,none⟩=some (.string (nmE T.L.es j))∧X.cell? ⟨b,j*2+1,none⟩=some (.int .i64 (lnE T.L.es j))):=fun X hX j hj=>by
  have ho:X.ownsRow B 131 2 (.slice aE T.L.es.length kE) T.L.es.length (enV T.L.es):=zF bJ (fun y cs _ N=>by
   rw[hX.old y (Array.getElem?_eq_some_iff.1 N).1 (fun e=>by
    rcases e with e|e
    ·exact zE N h.blR (by decide) e
    ·exact zE N h.fiR (by decide) e)]
   exact N)
  exact zd rfl ho j (by omega)
 have cO:ne≤16:=by rw[←aG];exact bG.1
 have b6:Hid _:=bG
 have b9:Hid _:=aG
 have b7:Hid (∀j,j<ne→zM (T.L.es.take (j+1))=zM (T.L.es.take j)+lnE T.L.es j∧zM (T.L.es.take (j+1))≤zM T.L.es):=fun j hj=>⟨zBT _ _ (by omega),zQ _ _⟩
 have cP:q<w.heap.size:=h.blR.lt
 clear h hg bJ aG
 go_enter Tryz.func124,Tryz.ntmps124
 go_wp2_with fail
 clear c0 c6
 go_loopw [18,4,2,3] (fun iv fv ov lv wr=>∃(i:Nat) (cJ:Nat→Bool) (cS:Nat→Nat) (cF:Nat→Value) (vo vl:Value) (F:Nat→Ob) (n:Nat) (H:Nat→ByteArray) (m:Nat),i≤ne∧iv=.int .i64 i∧fv=.int .i64 (zM (T.L.es.take i))∧vo=ov∧vl=lv∧n≤i∧m≤i∧VS kt B k g p q f T un ul rd bl cJ cS cF wr∧Fr (fun j=>j=q∨j=f) w wr∧OwnF wr w.heap.size vo n F∧zEZ F n=zEa kt T bl i∧wr.ownsRow w.heap.size 9 1 vl m (tV H m)∧zh H m=zA5 kt T bl i) (fun iv _ _ _ _=>ne-(intOf iv).toNat)
 case atStart=>exact⟨0,dn,zs,bd,_,_,fun _=>(⟨#[]⟩,⟨#[]⟩),0,fun _=>⟨#[]⟩,0,by omega,rfl,by simp[zM],rfl,rfl,by omega,by omega,H.out,Fr.refl _ _,⟨by simp[zFo],.inl ⟨rfl,rfl⟩⟩,rfl,⟨rfl,.inl ⟨rfl,rfl⟩⟩,rfl⟩
 case round=>
  obtain⟨i,cK,cT,cG,vo,vl,F,n,HH,m,hi,rfl,rfl,rfl,rfl,hn,hm,hV,hF,hO,bD,hL,bC⟩:=hrel
  have aQ:Hid _:=bD
  have aN:Hid _:=bC
  have c9:Hid (wr.ownsRow w.heap.size 9 1 vl m (tV HH m)):=hL
  clear bD bC
  have HV:Hid _:=hV
  have HF:Hid _:=hF
  have HO:Hid (OwnF wr w.heap.size vo n F):=hO
  by_cases bH:i<ne
  ·have dJ:(i:Int)<(ne:Int):=by omega
   obtain⟨be,cM,dH,y0,y1⟩:=bY.out wr hF i bH
   subst cM
   obtain⟨aX,aY⟩:=b7.out i bH
   have dK:=b6.out.2
   obtain⟨fi,aD⟩:∃x,zM (T.L.es.take i)=x:=⟨_,rfl⟩
   obtain⟨ln,aF⟩:∃x,lnE T.L.es i=x:=⟨_,rfl⟩
   obtain⟨nm,aZ⟩:∃x,nmE T.L.es i=x:=⟨_,rfl⟩
   rw[aX]at aY
   rw[aD,aF]at aY
   rw[aF]at y1
   rw[aZ]at y0
   rw[aD]
   obtain⟨W,hW⟩:∃W,wr.alloc (.cells #[.string nm,.int .i64 ln] 131)=W:=⟨_,rfl⟩
   have a6:Below wr.heap.size wr W:=by rw[←hW];exact (Below.refl _ _).alloc (Nat.le_refl _) _
   obtain⟨eb,aV⟩:∃x,wr.heap.size=x:=⟨_,rfl⟩
   have bE:W.heap[eb]? =some (.cells #[.string nm,.int .i64 ln] 131 (0,0)):=by rw[←hW,←aV];exact heap_alloc_new _ _
   have cB:Hid _:=bE
   have aU:=hV.below a6
   have aC:=hF.thenBelow a6
   have b4:Hid _:=zJO kt B k g p q f fi (fi+ln) T un ul rd bl cK cT cG W aU hT b6.out (H.out.gd hG aC) (Nat.le_trans hB aC.size) (by omega) (by omega)
   have aS:Hid _:=aU
   have bZ:Hid _:=aC
   have cA:Hid (OwnF W w.heap.size vo n F):=zI hO a6
   have aB:Hid (W.ownsRow w.heap.size 9 1 vl m (tV HH m)):=zI hL a6
   have bL:(fi:Int)+(ln:Int)=((fi+ln:Nat):Int):=by simp
   obtain⟨en,aW⟩:∃x,fi+ln=x:=⟨_,rfl⟩
   rw[aW]at b4 bL aY
   have R:Hid _:=aD
   have a1:Hid _:=aF
   have bA:Hid _:=aZ
   have U:Hid _:=aW
   have b5:Hid _:=aX
   have dI:en≤4096:=by omega
   have c8:Hid _:=hW
   have bX:Hid _:=aV
   clear hV hF hO hL aD aF aZ a6 bE aU aC aW aX hW aV
   go_wp2_with fail
   rw[c8.out,bX.out]
   refine Calls.mono b4.out ?_
   rintro e w1 ⟨⟨dB,dO,dA,a5⟩,a4,cN⟩
   have d9:Hid _:=a5
   have aA:Hid _:=bZ.out.trans' a4
   have Q:∀(j:Nat) (cs:Array Value) (t:TypeId),t=131∨t=149→W.heap[j]? =some (.cells cs t (0,0))→w1.heap[j]? =some (.cells cs t (0,0)):=fun j cs t ht hj=>by
    rw[a4.old j (Array.getElem?_eq_some_iff.1 hj).1 (fun e=>by
     rcases e with e|e
     ·exact zE hj aS.out.blR (by rcases ht with e|e<;>simp[e]) e
     ·exact zE hj aS.out.fiR (by rcases ht with e|e<;>simp[e]) e)]
    exact hj
   have aT:=Q _ _ _ (.inl rfl) cB.out
   have G:OwnF w1 w.heap.size vo n F:=zF cA.out (fun j cs _ hj=>Q j cs 149 (.inr rfl) hj)
   have A:w1.ownsRow w.heap.size 9 1 vl m (tV HH m):=zD aB.out (fun y N=>a4.old y (zG aB.out y N) (fun e=>by
    have h0:=zK aB.out y N
    rcases e with e|e
    ·omega
    ·obtain⟨cur,bF⟩:=zB aB.out y N
     exact zE bF aS.out.fiR (by decide) e))
   have z0:w1.cell? ⟨eb,0,none⟩=some (.string nm):=cell_of_row _ _ _ _ 131 _ aT
   rcases cN with ⟨a7,rfl⟩|⟨aJ,rfl⟩
   ·have a8:zDw kt T bl i=true:=zJV (fun x h1 h2=>a7 x (by rw[R.out]at h1;exact h1) (by rw[R.out,a1.out,U.out]at h2;exact h2))
    obtain⟨o1,o2⟩:=zFr a8
    obtain⟨D,hD⟩:∃D:ByteArray,(⟨(zCZ kt T bl fi en).toArray⟩:ByteArray)=D:=⟨_,rfl⟩
    obtain⟨v',w2,hr,ho,J⟩:=zMQ G aA.out.size (by omega) nm D
    have a2:Hid _:=hr
    have u:Below w1.heap.size w1 (w1.alloc (.cells #[.string nm,.string D] 149)):=(Below.refl _ _).alloc (Nat.le_refl _) _
    have aR:Hid _:=(a5.below u).grow (zI G u) J
    have aL:Hid (Fr (fun j=>j=q∨j=f) w w2):=(aA.out.alloc _).grown J (fun y N=>.inr (zK G y N))
    have aM:Hid (w2.ownsRow w.heap.size 9 1 vl m (tV HH m)):=zD (zI A u) (fun y N=>J.block y (zG (zI A u) y N) (fun e=>by
     obtain⟨c1,k1⟩:=zB (zI A u) y N
     obtain⟨c2,k2⟩:=zB (zI G u) y e.symm
     exact zE k1 k2 (by decide) rfl))
    have aO:Hid _:=ho
    have aP:Hid (zEZ (zIs F n (nm,D)) (n+1)=zEa kt T bl (i+1)):=by
     show _=_
     rw[zEE,aQ.out,o1]
     congr 2
     show (nm,D)=unO kt T bl i
     unfold unO
     rw[bA.out,R.out,a1.out,U.out,hD]
    have Z:Hid (zh HH m=zA5 kt T bl (i+1)):=by show _=_;rw[o2];exact aN.out
    obtain⟨av,cv,b1⟩:=zA G
    obtain⟨cE,cI,bO⟩:=zA ho
    obtain⟨al,cl,b0⟩:=zA A
    subst b1 bO b0
    rw[hD]
    clear a5 a4 Q aT G A hr ho J u hD a7 a8 o1 o2
    go_wp2_with (at_builtin;refine zJ rfl (.tmp 34) (.tmp 39) 102 rfl _ _ _ (by simp[Act.eval]) (by simp[Act.eval]) _ a2.out ?_)
    refine⟨⟨i+1,_,_,_,.slice cE (n+1) cI,.slice al m cl,_,n+1,HH,m,by omega,by go_num,?_,rfl,rfl,by omega,by omega,aR.out,aL.out,aO.out,aP.out,aM.out,Z.out⟩,by simp[intOf];omega⟩
    rw[b5.out,R.out,a1.out,U.out]
   ·have a8:zDw kt T bl i=false:=zLe (by rw[R.out,a1.out,U.out];exact aJ)
    obtain⟨o1,o2⟩:=zH7 a8
    obtain⟨v',w2,hr,ho,J,_⟩:=zFt A aA.out.size (by omega) nm
    have a2:Hid _:=hr
    have u:Below w1.heap.size w1 (w1.alloc (.cells #[.string nm] 9)):=(Below.refl _ _).alloc (Nat.le_refl _) _
    have aR:Hid _:=(a5.below u).grow9 (zI A u) cP J
    have aL:Hid (Fr (fun j=>j=q∨j=f) w w2):=(aA.out.alloc _).grown J (fun y N=>.inr (zK A y N))
    have aO:Hid (OwnF w2 w.heap.size vo n F):=zD (zI G u) (fun y N=>J.block y (zG (zI G u) y N) (fun e=>by
     obtain⟨c1,k1⟩:=zB (zI G u) y N
     obtain⟨c2,k2⟩:=zB (zI A u) y e.symm
     exact zE k1 k2 (by decide) rfl))
    have aM:Hid _:=ho
    have aP:Hid (zEZ F n=zEa kt T bl (i+1)):=by show _=_;rw[o1];exact aQ.out
    have Z:Hid (zh (fun j=>if j=m then nm else HH j) (m+1)=zA5 kt T bl (i+1)):=by
     show _=_
     rw[zIj,aN.out,o2,bA.out]
    obtain⟨av,cv,b1⟩:=zA G
    obtain⟨al,cl,b0⟩:=zA A
    obtain⟨cD,cH,bM⟩:=zA ho
    subst b1 b0 bM
    clear a5 a4 Q aT G A hr ho J u aJ a8 o1 o2
    go_wp2_with (at_builtin;refine zJ rfl (.tmp 41) (.tmp 44) 22 rfl _ _ _ (by simp[Act.eval]) (by simp[Act.eval]) _ a2.out ?_)
    refine⟨⟨i+1,_,_,_,.slice av n cv,.slice cD (m+1) cH,F,n,_,m+1,by omega,by go_num,?_,rfl,rfl,by omega,by omega,aR.out,aL.out,aO.out,aP.out,aM.out,Z.out⟩,by simp[intOf];omega⟩
    rw[b5.out,R.out,a1.out,U.out]
  ·have ei:i=ne:=by omega
   subst ei
   clear hV hF hO hL
   go_wp2_with fail
   go_ret2
   exact⟨vo,vl,F,n,HH,m,rfl,⟨_,_,_,HV.out⟩,HF.out,HO.out,by rw[b9.out];exact aQ.out,c9.out,by rw[b9.out];exact aN.out⟩
def zJW (kt:Nat→Int)(T:TT)(bl:Nat→ByteArray)(fi k:Nat):Bool:=(List.range k).all (fun i=>decide (stF kt T bl ((fi+i)/(T.L.K*T.L.C))=0))
theorem zHS (kt:Nat→Int)(T:TT)(bl:Nat→ByteArray)(j k:Nat):zJW kt T bl j (k+1)=(zJW kt T bl j k&&decide (stF kt T bl ((j+k)/(T.L.K*T.L.C))=0)):=by simp[zJW,List.range_succ]
theorem zFg (kt:Nat→Int)(T:TT)(bl:Nat→ByteArray)(ns s:Nat)(h:s<ns):(zGV kt T bl ns).getD s 0=stF kt T bl s:=by
 unfold zGV
 rw[List.getD_eq_getElem?_getD,List.getElem?_map,List.getElem?_range h]
 rfl
theorem zFq (kt:Nat→Int)(T:TT)(bl:Nat→ByteArray)(n:Nat):(zEa kt T bl n).length≤n:=by
 unfold zEa
 rw[List.length_map]
 exact Nat.le_trans (List.length_filter_le _ _) (by simp)
theorem zDI (kt:Nat→Int)(T:TT)(bl:Nat→ByteArray)(n:Nat):(zA5 kt T bl n).length≤n:=by
 unfold zA5
 rw[List.length_map]
 exact Nat.le_trans (List.length_filter_le _ _) (by simp)
theorem zKc {T:TT}(j:0<T.L.K*T.L.C){x:Nat}(D:x<zM T.L.es):x/(T.L.K*T.L.C)<T.L.ns:=by
 show x/(T.L.K*T.L.C)<nst (T.L.K*T.L.C) (zM T.L.es)
 unfold nst
 rw[Nat.div_lt_iff_lt_mul j]
 have u:=Nat.div_add_mod (zM T.L.es+T.L.K*T.L.C-1) (T.L.K*T.L.C)
 have A:=Nat.mod_lt (zM T.L.es+T.L.K*T.L.C-1) j
 rw[Nat.mul_comm]at u
 omega
theorem zKb {T:TT}(j:0<T.L.K*T.L.C):zM T.L.es≤T.L.ns*(T.L.K*T.L.C):=by
 rcases Nat.eq_zero_or_pos (zM T.L.es) with h|h
 ·omega
 ·have u:=zKc (T:=T) j (x:=zM T.L.es-1) (by omega)
  rw[Nat.div_lt_iff_lt_mul j]at u
  omega
theorem zMl {kt:Nat→Int}{T:TT}{bl:Nat→ByteArray}(u:0<T.L.K*T.L.C){j:Nat}(N:j<T.L.es.length)(hf:zDw kt T bl j=true):(zEb kt T bl T.L.ns).extract (zM (T.L.es.take j)) (zM (T.L.es.take j)+lnE T.L.es j)=(unO kt T bl j).2:=by
 have A:zM (T.L.es.take j)+lnE T.L.es j≤zM T.L.es:=by rw[←zBT _ _ N];exact zQ _ _
 have D:=zMk (kt:=kt) (T:=T) (bl:=bl) u (ns:=T.L.ns) (a:=zM (T.L.es.take j)) (b:=zM (T.L.es.take j)+lnE T.L.es j) (by omega) (Nat.le_trans A (zKb u)) (fun x Q R=>by
  have G:=List.all_eq_true.1 hf (x-zM (T.L.es.take j)) (List.mem_range.2 (by omega))
  have J:=of_decide_eq_true G
  rwa [show zM (T.L.es.take j)+(x-zM (T.L.es.take j))=x by omega]at J)
 unfold unO zEb
 rw[←D]
 apply zHF
 simp[ByteArray.data_extract]
structure UI (kt:Nat→Int)(T:TT)(bl:Nat→ByteArray)(w:World)(pb i:Nat)(vk vo vl:Value)(F:Nat→Ob)(n:Nat)(wr:World):Prop where
 pr:wr.heap[pb]? =some (.cells (pmC T) 81 (0,0))
 ok:wr.ownsRow w.heap.size 3 1 vk T.L.ns (unV (zGV kt T bl T.L.ns))
 oo:OwnF wr w.heap.size vo n F
 oe:zEZ F n=zEa kt T bl i
 ol:OwnT wr w.heap.size vl (zA5 kt T bl i)
 bel:Below w.heap.size w wr
theorem zDQ (F:Nat→Ob)(n:Nat):(zEZ F n).length=n:=by simp[zEZ]
section
variable {kt:Nat→Int} {T:TT} {bl:Nat→ByteArray} {w:World} {pb i:Nat} {vk vo vl:Value} {F:Nat→Ob} {n:Nat} {wr w':World}
theorem UI.nb (H:UI kt T bl w pb i vk vo vl F n wr):n≤i:=by
 have j:=zFq kt T bl i
 rw[←H.oe,zDQ]at j
 exact j
theorem UI.low (H:UI kt T bl w pb i vk vo vl F n wr)(hb:Below wr.heap.size wr w'):UI kt T bl w pb i vk vo vl F n w':=
 ⟨(hb.block _ (Array.getElem?_eq_some_iff.1 H.pr).1).trans H.pr,zD H.ok (fun q j=>hb.block q (zG H.ok q j)),zD H.oo (fun q j=>hb.block q (zG H.oo q j)),H.oe,H.ol.below hb,H.bel.trans (hb.mono H.bel.size)⟩
theorem UI.obj (H:UI kt T bl w pb i vk vo vl F n wr)(hf:zDw kt T bl i=true)(hi:i≤1000)(x y:ByteArray)(W:unO kt T bl i=(x,y)):∃Z N,(Builtin.append_ #[102,102] 102 #[vo,.slice (some ⟨wr.heap.size,0,none⟩) 1 1]).run Tryz.prog (wr.alloc (.cells #[.string x,.string y] 149)).drew=.ok Z N∧UI kt T bl w pb (i+1) vk Z vl (zIs F n (x,y)) (n+1) N∧∀(j:Nat) (A:Array Value),wr.heap[j]? =some (.cells A 131 (0,0))→N.heap[j]? =some (.cells A 131 (0,0)):=by
 obtain⟨X,hX⟩:∃X,(wr.alloc (.cells #[.string x,.string y] 149)).drew=X:=⟨_,rfl⟩
 have Q:Below wr.heap.size wr X:=by rw[←hX];exact ((Below.refl _ _).alloc (Nat.le_refl _) _).drew
 have G:=H.low Q
 have U:X.ownsRow wr.heap.size 149 2 (.slice (some ⟨wr.heap.size,0,none⟩) 1 1) 1 [.string x,.string y]:=by
  rw[←hX]
  exact⟨rfl,.inr ⟨wr.heap.size,1,#[.string x,.string y],rfl,Nat.le_refl _,heap_alloc_new _ _,Nat.le_refl _,by unfold maxLen;omega,rfl,rfl⟩⟩
 obtain⟨i0,a1,z0,z1,z2⟩:=info_parts zHc
 have a4:=H.nb
 obtain⟨Z,N,hr,ho,hg,_⟩:=zV 102 Tryz.underlying102 a1 z0 z1 z2 rfl (by decide) G.oo U (by intro u W;simp at W;rcases W with rfl|rfl<;>rfl) (by omega) (by omega) G.bel.size
 have J:∀(j:Nat) (A:Array Value) (t:TypeId),X.heap[j]? =some (.cells A t (0,0))→t≠149→N.heap[j]? =some (.cells A t (0,0)):=fun j A t D ht=>by
  rw[hg.block j (Array.getElem?_eq_some_iff.1 D).1 (fun e=>by
   obtain⟨cur,R⟩:=zB G.oo j e.symm
   exact zE D R ht rfl)]
  exact D
 obtain⟨o1,o2⟩:=zFr hf
 refine⟨Z,N,by rw[hX];exact hr,⟨J _ _ _ G.pr (by decide),zF G.ok (fun j A _ D=>J j A 3 D (by decide)),?_,?_,?_,G.bel.grown hg G.bel.size (fun q hq=>zK G.oo q hq)⟩,fun j A D=>J j A 131 ((Q.block j (Array.getElem?_eq_some_iff.1 D).1).trans D) (by decide)⟩
 ·unfold OwnF
  have e:zFo (zIs F n (x,y)) (n+1)=zFo F n++[.string x,.string y]:=zED F n (x,y)
  rw[e]
  exact ho
 ·rw[zEE,H.oe,o1,W]
 ·rw[o2]
  exact zF G.ol (fun j A _ D=>J j A 9 D (by decide))
theorem UI.los (H:UI kt T bl w pb i vk vo vl F n wr)(hf:zDw kt T bl i=false)(hi:i≤1000)(x:ByteArray)(hu:nmE T.L.es i=x):∃R G,(Builtin.append_ #[22,22] 22 #[vl,.slice (some ⟨wr.heap.size,0,none⟩) 1 1]).run Tryz.prog (wr.alloc (.cells #[.string x] 9))=.ok R G∧UI kt T bl w pb (i+1) vk vo R F n G∧∀(j:Nat) (u:Array Value),wr.heap[j]? =some (.cells u 131 (0,0))→G.heap[j]? =some (.cells u 131 (0,0)):=by
 have X:=zDI kt T bl i
 obtain⟨R,G,hr,Z,W,U,_⟩:=H.ol.snoc x (by omega) H.bel.size
 have J:Below wr.heap.size wr (wr.alloc (.cells #[.string x] 9)):=(Below.refl _ _).alloc (Nat.le_refl _) _
 have Q:=H.low J
 have D:∀(j:Nat) (u:Array Value) (t:TypeId),(wr.alloc (.cells #[.string x] 9)).heap[j]? =some (.cells u t (0,0))→t≠9→G.heap[j]? =some (.cells u t (0,0)):=fun j u t A ht=>by
  rw[W.block j (Array.getElem?_eq_some_iff.1 A).1 (fun e=>by
   obtain⟨cur,N⟩:=zB Q.ol j e.symm
   exact zE A N ht rfl)]
  exact A
 obtain⟨o1,o2⟩:=zH7 hf
 refine⟨R,G,hr,⟨D _ _ _ Q.pr (by decide),zF Q.ok (fun j u _ A=>D j u 3 A (by decide)),zF Q.oo (fun j u _ A=>D j u 149 A (by decide)),?_,?_,U w H.bel rfl⟩,fun j u A=>D j u 131 ((J.block j (Array.getElem?_eq_some_iff.1 A).1).trans A) (by decide)⟩
 ·rw[o1];exact H.oe
 ·rw[o2,hu];exact Z
end
def RUn (kt:Nat→Int)(T:TT)(bl:Nat→ByteArray)(w:World)(e:Ending)(w':World):Prop:=
 ∃vo vm vl F n,e=.returned (.tuple #[vo,vm,vl])∧Below w.heap.size w w'∧OwnF w' w.heap.size vo n F∧zEZ F n=zEa kt T bl T.L.es.length∧Mk w' w.heap.size vm (if (zA5 kt T bl T.L.es.length).length=0 then [] else [(14,((zA5 kt T bl T.L.es.length).length:Int))])∧OwnT w' w.heap.size vl (zA5 kt T bl T.L.es.length)
theorem zIa (kt:Nat→Int)(B v:Nat)(vH vU:Value)(hp:List (ByteArray×Nat))(un:List Nat)(t0:ByteArray)(w:World)(H:RB kt B v vH vU hp un w)(hS:RSet kt t0 (hp.map Prod.fst))(hG:Gr kt w)(hl:hp.length≤100000000):
 Calls Tryz.prog 66 #[.pointer (some ⟨v,0,none⟩)] w fun e w'=>RUn kt (tT t0) (blH (hp.map Prod.fst)) w e w':=by
 have hT:zt (tT t0):=zAz (zY (hS.rd t0 hS.mem0)).2.1
 have b0:(tT t0).L.es.length≤16∧zM (tT t0).L.es≤4096:=zAQ (RS.on t0)
 obtain⟨bl,aY⟩:∃x,blH (hp.map Prod.fst)=x:=⟨_,rfl⟩
 obtain⟨T,aX⟩:∃x,tT t0=x:=⟨_,rfl⟩
 have b9:Hid (Calls Tryz.prog 89 #[.pointer (some ⟨v,0,none⟩)] w fun e w'=>RAl kt (tT t0) (blH (hp.map Prod.fst)) w e w'):=zPk kt B v vH vU hp un t0 w H hS hG hl
 rw[aY,aX]at b9
 obtain⟨U,g0,cH,rfl,hm,c0,c1,hh⟩:=H.top hS
 obtain⟨d0,d1,d2,d3⟩:=hh.nums
 obtain⟨aE,cE,d5,oE⟩:=hh.ents
 rw[aX]at d0 d1 d2 d3 d5 oE hT b0
 rw[aY,aX]
 have bW:=hT.k1;have dC:=hT.km;have bT:=hT.c1;have aK:=hT.c64;have bU:=hT.cnt
 have a5:0<T.L.K*T.L.C:=Nat.mul_pos bW bT
 obtain⟨m,dD⟩:∃x,hp.length=x:=⟨_,rfl⟩
 rw[dD]at c0 hm
 have fF:(0:Int)<(m:Int):=by omega
 obtain⟨ne,b1⟩:∃x,T.L.es.length=x:=⟨_,rfl⟩
 obtain⟨K,hK⟩:∃x,T.L.K=x:=⟨_,rfl⟩
 obtain⟨C,hC⟩:∃x,T.L.C=x:=⟨_,rfl⟩
 obtain⟨M,hM⟩:∃x,T.L.M=x:=⟨_,rfl⟩
 obtain⟨V,hV⟩:∃x,T.L.V=x:=⟨_,rfl⟩
 obtain⟨ns,N⟩:∃x,T.L.ns=x:=⟨_,rfl⟩
 have cK:Hid (∀(X:World) (j:Nat),Below w.heap.size w X→j<ne→∃b,aE=some ⟨b,0,none⟩∧X.cell? ⟨b,j*2,none⟩=some (.string (nmE T.L.es j))∧X.cell? ⟨b,j*2+1,none⟩=some (.int .i64 (lnE T.L.es j))):=fun X j hX hj=>by
  have ho:=zD oE (fun q hq=>hX.block q (zG oE q hq))
  obtain⟨b,e,_,x1,x2⟩:=zd rfl ho j (by omega)
  exact⟨b,e,x1,x2⟩
 rw[hK]at d0
 rw[hC]at d2
 rw[hM]at d1
 rw[hV]at d3
 rw[b1]at d5 b0
 have bH:Hid (∀X:World,Below w.heap.size w X→X.cell? ⟨v,0,none⟩=some (.slice (some ⟨g0,0,none⟩) m cH)∧X.cell? ⟨g0,0,none⟩=some (.pointer (some ⟨U,0,none⟩))∧X.cell? ⟨U,0,none⟩=some (.int .i64 K)∧X.cell? ⟨U,1,none⟩=some (.int .i64 M)∧X.cell? ⟨U,2,none⟩=some (.int .i64 C)∧X.cell? ⟨U,3,none⟩=some (.int .i64 V)∧X.cell? ⟨U,5,none⟩=some (.slice aE ne cE)):=fun X hX=>
  ⟨(hX.cell (p:=⟨v,0,none⟩) (block_lt_of_cell c0)).trans c0,(hX.cell (p:=⟨g0,0,none⟩) (block_lt_of_cell c1)).trans c1,(hX.cell (p:=⟨U,0,none⟩) (block_lt_of_cell d0)).trans d0,(hX.cell (p:=⟨U,1,none⟩) (block_lt_of_cell d1)).trans d1,(hX.cell (p:=⟨U,2,none⟩) (block_lt_of_cell d2)).trans d2,(hX.cell (p:=⟨U,3,none⟩) (block_lt_of_cell d3)).trans d3,(hX.cell (p:=⟨U,5,none⟩) (block_lt_of_cell d5)).trans d5⟩
 have bC:Hid (∀j,j<ne→zM (T.L.es.take (j+1))=zM (T.L.es.take j)+lnE T.L.es j∧zM (T.L.es.take (j+1))≤4096):=fun j hj=>⟨zBT _ _ (by omega),Nat.le_trans (zQ _ _) b0.2⟩
 have aH:Hid (∀j k,j<ne→k<lnE T.L.es j→(zM (T.L.es.take j)+k)/(K*C)<ns):=fun j k hj hk=>by
  rw[←hK,←hC,←N]
  have h1:=zBT T.L.es j (by omega)
  have h2:=zQ T.L.es (j+1)
  exact zKc a5 (by omega)
 have aG:Hid (∀j,j<ne→zDw kt T bl j=true→(zEb kt T bl ns).extract (zM (T.L.es.take j)) (zM (T.L.es.take j)+lnE T.L.es j)=(unO kt T bl j).2):=fun j hj hf=>by rw[←N];exact zMl a5 (by omega) hf
 have bF:Hid (4096≤(zEb kt T bl ns).size∨zM T.L.es≤(zEb kt T bl ns).size):=by
  right
  rw[←N]
  unfold zEb
  rw[zDN,zAP]
  exact zKb a5
 have cR:Hid (∀j,j<ne→zM (T.L.es.take j)+lnE T.L.es j≤zM T.L.es):=fun j hj=>by rw[←zBT _ _ (by omega)];exact zQ _ _
 have a7:Hid (T.L.es.length=ne):=b1
 have bB:Hid (T.L.K*T.L.C=K*C):=by show _=_;rw[hK,hC]
 have aQ:Hid (T.L.ns=ns):=N
 have cQ:Hid (∀(i:Nat) (vk vo vl:Value) (F:Nat→Ob) (n pb:Nat) (X:World),UI kt T bl w pb i vk vo vl F n X→X.cell? ⟨pb,0,none⟩=some (.int .i64 K)∧X.cell? ⟨pb,2,none⟩=some (.int .i64 C)):=fun i vk vo vl F n pb X hX=>by
  rw[←hK,←hC]
  exact⟨cell_of_row _ _ _ _ 81 _ hX.pr,cell_of_row _ _ _ _ 81 _ hX.pr⟩
 have cP:Hid (pmC T= #[.int .i64 K,.int .i64 M,.int .i64 C,.int .i64 V]):=by show _=_;unfold pmC;rw[hK,hM,hC,hV]
 have d9:K*C≤255*64:=by rw[←hK,←hC];exact Nat.mul_le_mul (by omega) aK
 have bX:0<K*C:=by rw[←hK,←hC];exact a5
 have dU:ns≤512:=by
  rw[←N]
  have h1:T.L.ns*1≤T.L.ns*(T.L.K+T.L.M):=Nat.mul_le_mul_left _ (by omega)
  have h2:T.L.ns*(T.L.K+T.L.M)=T.L.cnt:=rfl
  omega
 obtain⟨z,hz⟩:∃x,K*C=x:=⟨_,rfl⟩
 have e1:(K:Int)*(C:Int)=(z:Int):=by rw[←hz];simp
 rw[hz]at d9 bX aH bB
 have u1:IntKind.i64.wrap (z:Int)=(z:Int):=by rw[IntKind.wrap_i64];omega
 have fK:¬(z:Int)=0:=by omega
 have fL:((z:Int) == 0)=false:=by simp;omega
 have fM:¬z=0:=by omega
 clear H hS hG hl hT aY hh bU oE c0 c1 d0 d1 d2 d3 d5 hz hK hC hM hV N b1 bW dC bT aK a5
 go_enter Tryz.func66,Tryz.ntmps66
 go_wp2_with fail
 refine Calls.mono b9.out ?_
 rintro e w1 ⟨vk,vb,rfl,aB,aC,dE⟩
 obtain⟨ak,ck,rfl⟩:=zA aC
 have aR:Hid (UI kt T bl w w1.heap.size 0 (.slice ak T.L.ns ck) (.slice none 0 0) (.slice none 0 0) (fun _=>(⟨#[]⟩,⟨#[]⟩)) 0 (w1.alloc (.cells #[.int .i64 K,.int .i64 M,.int .i64 C,.int .i64 V] 81))):=by
  have bS:Below w1.heap.size w1 (w1.alloc (.cells #[.int .i64 K,.int .i64 M,.int .i64 C,.int .i64 V] 81)):=(Below.refl _ _).alloc (Nat.le_refl _) _
  refine⟨by rw[cP.out];exact heap_alloc_new _ _,zD aC (fun q hq=>bS.block q (zG aC q hq)),⟨by simp[zFo],.inl ⟨rfl,rfl⟩⟩,rfl,OwnT.nil _ _,aB.trans (bS.mono aB.size)⟩
 obtain⟨v0,v1,v2,v3,v4,v5,v6⟩:=bH.out w1 aB
 rw[aQ.out]at aR
 obtain⟨SS,aV⟩:∃x,zEb kt T bl ns=x:=⟨_,rfl⟩
 rw[aQ.out,aV]
 rw[aV]at aG bF
 obtain⟨pb,c9⟩:∃x,w1.heap.size=x:=⟨_,rfl⟩
 have cO:Hid (w1.heap.size=pb):=c9
 clear aB aC dE aV c9
 go_wp2_with fail
 rw[cO.out]at aR ⊢
 clear v0 v1 v2 v3 v4 v5 v6
 go_loopw [9,10,11,12] (fun ov lv fv iv wr=>∃(i:Nat) (vo vl:Value) (F:Nat→Ob) (n:Nat),i≤ne∧vo=ov∧vl=lv∧iv=.int .i64 i∧fv=.int .i64 (zM (T.L.es.take i))∧UI kt T bl w pb i (.slice ak ns ck) vo vl F n wr) (fun _ _ _ iv _=>ne-(intOf iv).toNat)
 case atStart=>exact⟨0,_,_,_,_,by omega,rfl,rfl,rfl,by simp[zM],aR.out⟩
 case round=>
  obtain⟨i,vo,vl,F,n,hi,rfl,rfl,rfl,rfl,hU⟩:=hrel
  have HU:Hid (UI kt T bl w pb i (.slice ak ns ck) vo vl F n wr):=hU
  obtain⟨v0,v1,v2,v3,v4,v5,v6⟩:=bH.out wr hU.bel
  clear hU
  by_cases a2:i<ne
  ·have bV:(i:Int)<(ne:Int):=by omega
   have fD:(0:Int)≤(i:Int):=by omega
   obtain⟨bE,d4,y0,y1⟩:=cK.out wr i HU.out.bel a2
   subst d4
   obtain⟨l1,l2⟩:=bC.out i a2
   have l3:=cR.out i a2
   obtain⟨nm,b2⟩:∃x,nmE T.L.es i=x:=⟨_,rfl⟩
   obtain⟨ln,G⟩:∃x,lnE T.L.es i=x:=⟨_,rfl⟩
   obtain⟨u,A⟩:∃x,zM (T.L.es.take i)=x:=⟨_,rfl⟩
   have bD:Hid (nmE T.L.es i=nm):=b2
   have f5:Hid (lnE T.L.es i=ln):=G
   have f4:Hid (zM (T.L.es.take i)=u):=A
   have cL:Hid (∀k,k<ln→(u+k)/z<ns):=fun k hk=>by rw[←A];exact aH.out i k a2 (by rw[G];exact hk)
   have bA:Hid (zDw kt T bl i=true→SS.extract u (u+ln)=(unO kt T bl i).2):=fun h=>by rw[←A,←G];exact aG.out i a2 h
   have cM:Hid (zJW kt T bl u ln=zDw kt T bl i):=by show _=_;rw[←A,←G];rfl
   have aO:Hid (zM (T.L.es.take (i+1))=u+ln):=by show _=_;rw[l1,A,G]
   rw[A,G]at l3
   rw[l1,A,G]at l2
   rw[b2]at y0
   rw[G]at y1
   rw[A]
   have dG:u+ln≤SS.size:=by
    rcases bF.out with h|h
    ·omega
    ·omega
   have R:Hid (UI kt T bl w pb i (.slice ak ns ck) vo vl F n (wr.alloc (.cells #[.string nm,.int .i64 ln] 131))):=HU.out.low ((Below.refl _ _).alloc (Nat.le_refl _) _)
   obtain⟨X1,aA⟩:∃X,wr.alloc (.cells #[.string nm,.int .i64 ln] 131)=X:=⟨_,rfl⟩
   obtain⟨xb,b3⟩:∃x,wr.heap.size=x:=⟨_,rfl⟩
   have aF:X1.heap[xb]? =some (.cells #[.string nm,.int .i64 ln] 131 (0,0)):=by rw[←aA,←b3];exact heap_alloc_new _ _
   have z0:X1.cell? ⟨xb,0,none⟩=some (.string nm):=cell_of_row _ _ _ _ 131 _ aF
   have z1:X1.cell? ⟨xb,1,none⟩=some (.int .i64 ln):=cell_of_row _ _ _ _ 131 _ aF
   rw[aA]at R
   obtain⟨p0,p2⟩:=cQ.out _ _ _ _ _ _ _ X1 R.out
   have cN:Hid (∀q,q<ns→∃g,ak=some ⟨g,0,none⟩∧X1.cell? ⟨g,q,none⟩=some (.int .i64 (stF kt T bl q:Nat))):=fun q hq=>by
    have ho:=R.out.ok
    rw[aQ.out]at ho
    obtain⟨g,e,hc⟩:=zEH ho (by simp[zGV]) q (by simp[zGV];exact hq)
    rw[zFg kt T bl ns q hq]at hc
    exact⟨g,e,hc⟩
   obtain⟨en,d7⟩:∃x,u+ln=x:=⟨_,rfl⟩
   have fB:(u:Int)+(ln:Int)=(en:Int):=by omega
   have u2:IntKind.i64.wrap (en:Int)=(en:Int):=by rw[IntKind.wrap_i64];omega
   rw[d7]at l2 l3 dG bA aO
   have cS:Hid _:=aA
   have cT:Hid (wr.heap.size=xb):=b3
   have bJ:Hid (X1.heap[xb]? =some (.cells #[.string nm,.int .i64 ln] 131 (0,0))):=aF
   clear b2 G A aF l1 aA b3 HU
   go_wp2_with fail
   rw[cS.out,cT.out]
   go_loopw [14,15] (fun dK kv wx=>∃k:Nat,k≤ln∧kv=.int .i64 (u+k:Nat)∧dK=.bool (zJW kt T bl u k)∧wx=X1) (fun _ kv _=>en-(intOf kv).toNat)
   case atStart=>exact⟨0,by omega,rfl,rfl,rfl⟩
   case round=>
    obtain⟨k,hk,rfl,rfl,cF⟩:=hrel
    rw[cF]
    clear cF
    obtain⟨fk,aZ⟩:∃x,u+k=x:=⟨_,rfl⟩
    rw[aZ]
    by_cases dB:k<ln
    ·have bY:(fk:Int)<(en:Int):=by omega
     obtain⟨q,hq⟩:∃x,fk/z=x:=⟨_,rfl⟩
     have dF:q<ns:=by rw[←hq,←aZ];exact cL.out k dB
     have dV:(q:Int)<(ns:Int):=by omega
     have fG:(0:Int)≤(q:Int):=by omega
     have cU:(fk:Int)/(z:Int)=(q:Int):=by rw[←hq,Int.natCast_ediv]
     have f9:(fk:Int).tdiv (z:Int)=(q:Int):=by rw[Int.tdiv_eq_ediv_of_nonneg (by omega)];exact cU
     have u3:IntKind.i64.wrap (q:Int)=(q:Int):=by rw[IntKind.wrap_i64];omega
     obtain⟨g,d6,aL⟩:=cN.out q dF
     subst d6
     have J:Hid (zJW kt T bl u (k+1)=(zJW kt T bl u k&&decide (stF kt T bl q=0))):=by show _=_;rw[zHS,bB.out,aZ,hq]
     obtain⟨sq,cC⟩:∃x,stF kt T bl q=x:=⟨_,rfl⟩
     rw[cC]at aL J
     have a1:u+(k+1)=fk+1:=by omega
     clear hq cC
     cases hfu:zJW kt T bl u k with
     |false=>
      rw[hfu]at J
      clear hfu aL
      go_wp2_with fail
      go_roundw
      case rel=>exact⟨k+1,by omega,by rw[a1];go_num,by rw[J.out];rfl,by first|rfl|trivial⟩
      case measure=>simp[intOf];omega
     |true=>
      rw[hfu]at J
      clear hfu
      by_cases cB:sq=0
      ·subst cB
       go_wp2_with fail
       go_roundw
       case rel=>exact⟨k+1,by omega,by rw[a1];go_num,by rw[J.out];rfl,by first|rfl|trivial⟩
       case measure=>simp[intOf];omega
      ·have fH:((sq:Int) == 0)=false:=by simp;omega
       have fI:¬(sq:Int)=0:=by omega
       have bG:Hid (zJW kt T bl u (k+1)=false):=by show _=_;rw[J.out];simp[cB]
       go_wp2_with fail
       go_roundw
       case rel=>exact⟨k+1,by omega,by rw[a1];go_num,by rw[bG.out],by first|rfl|trivial⟩
       case measure=>simp[intOf];omega
    ·obtain rfl:k=ln:=by omega
     have dA:fk=en:=by omega
     subst dA
     have bY:¬(fk:Int)<(fk:Int):=by omega
     rw[cM.out]
     cases hfj:zDw kt T bl i with
     |true=>
      obtain⟨D,hD⟩:∃x,SS.extract u fk=x:=⟨_,rfl⟩
      have cD:unO kt T bl i=(nm,D):=by
       have h1:=bA.out hfj
       rw[hD]at h1
       have h2:(unO kt T bl i).1=nm:=bD.out
       show ((unO kt T bl i).1,(unO kt T bl i).2)=_
       rw[h2,←h1]
      obtain⟨v',w2,hr,Z,W⟩:=R.out.obj hfj (by omega) nm D cD
      have dN:w2.cell? ⟨xb,1,none⟩=some (.int .i64 k):=cell_of_row _ _ _ _ 131 _ (W _ _ bJ.out)
      have fJ:∀X,(Instr.slice 9 (.string SS) (some (.int .i64 ((u:Nat):Int))) (some (.int .i64 ((fk:Nat):Int))) none).run Tryz.prog X=.ok (.string D) X:=fun X=>by
       rw[run_slice_string X 9 SS .i64 .i64 _ _ Tryz.underlying9 (by omega) (by omega) (by omega),Int.toNat_natCast,Int.toNat_natCast,hD]
      have Q:Hid _:=hr
      have aS:Hid (UI kt T bl w pb (i+1) (.slice ak ns ck) v' vl (zIs F n (nm,D)) (n+1) w2):=Z
      clear hr Z hD hfj cD W
      go_wp2_with fail
      go_region_law (refine zAF rfl (.tmp 81) (.tmp 92) 102 rfl _ _ _ (by simp[Act.eval]) (by simp[Act.eval]) _ Q.out ?_)
      all_goals
       go_wp2_with fail
       go_roundw
       case rel=>exact⟨i+1,_,_,_,_,by omega,rfl,rfl,by go_num,by rw[aO.out],aS.out⟩
       case measure=>simp[intOf];omega
     |false=>
      obtain⟨v',w2,hr,Z,W⟩:=R.out.los hfj (by omega) nm bD.out
      have dN:w2.cell? ⟨xb,1,none⟩=some (.int .i64 k):=cell_of_row _ _ _ _ 131 _ (W _ _ bJ.out)
      have Q:Hid _:=hr
      have aS:Hid (UI kt T bl w pb (i+1) (.slice ak ns ck) vo v' F n w2):=Z
      clear hr Z hfj W
      go_wp2_with (at_builtin;refine zJ rfl (.tmp 94) (.tmp 97) 22 rfl _ _ _ (by simp[Act.eval]) (by simp[Act.eval]) _ Q.out ?_)
      go_roundw
      case rel=>exact⟨i+1,_,_,_,_,by omega,rfl,rfl,by go_num,by rw[aO.out],aS.out⟩
      case measure=>simp[intOf];omega
  ·obtain rfl:i=ne:=by omega
   have bV:¬(i:Int)<(i:Int):=by omega
   obtain⟨ml,c8⟩:∃x,(zA5 kt T bl i).length=x:=⟨_,rfl⟩
   have aD:=HU.out.ol
   unfold OwnT at aD
   rw[c8]at aD
   obtain⟨al,cl,rfl⟩:=zA aD
   have dT:ml≤16:=by
    have:=zDI kt T bl i
    omega
   have aP:Hid ((zA5 kt T bl T.L.es.length).length=ml):=by show _=_;rw[a7.out];exact c8
   clear aD
   by_cases bZ:ml=0
   ·subst bZ
    go_wp2_with fail
    go_ret3
    refine⟨_,_,_,F,n,rfl,HU.out.bel,HU.out.oo,by rw[a7.out];exact HU.out.oe,by rw[if_pos aP.out];exact Mk.nil _ _,?_⟩
    rw[List.length_eq_zero_iff.1 aP.out]
    exact OwnT.nil _ _
   ·have dS:(0:Int)<(ml:Int):=by omega
    go_wp2_with fail
    refine Calls.mono (zBg 14 (ml:Int) wr) ?_
    rintro e w6 ⟨vm,rfl,ho,hB⟩
    obtain⟨va,vc,rfl⟩:=zA ho
    have a9:Hid _:=HU.out.low hB
    have HO:Hid (w6.ownsRow w.heap.size 121 2 (.slice va 1 vc) 1 (mkL [(14,(ml:Int))])):=zAJ ho HU.out.bel.size
    clear ho hB
    go_wp2_with fail
    go_ret3
    refine⟨_,_,_,F,n,rfl,a9.out.bel,a9.out.oo,by rw[a7.out];exact a9.out.oe,?_,?_⟩
    ·rw[aP.out,if_neg bZ];exact HO.out
    ·rw[a7.out];exact a9.out.ol
end Go.Proofs.YtlopecgkiikdhaaGreatDoor
