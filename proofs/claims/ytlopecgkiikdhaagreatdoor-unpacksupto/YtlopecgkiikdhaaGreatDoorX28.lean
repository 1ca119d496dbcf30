import Derived.Test.YtlopecgkiikdhaaGreatDoorX27
namespace Go.Proofs.YtlopecgkiikdhaaGreatDoor
open Go.RowKit
set_option maxRecDepth 100000
set_option maxHeartbeats 8000000
theorem Fr.thenLow {S:Nat→Prop}{w u A:World}{c:Nat}(h:Fr S w u)(hb:Below c u A)(D:w.heap.size≤c):Fr S w A:=
 h.trans (S1:=fun j=>S j∨w.heap.size≤j) (fun _ F=>F) ⟨hb.size,fun j _ G=>hb.block j (Nat.lt_of_lt_of_le (Nat.lt_of_not_le (fun h=>G (.inr h))) D),⟨hb.os,hb.tape,hb.output⟩⟩
def zPq (kt:Nat→Int)(B k g p q f:Nat)(T:TT)(un:Value)(ul:List Nat)(rd:Nat→Bool)(bl:Nat→ByteArray)(a b:Nat)(w:World)(e:Ending)(w':World):Prop:=
 (∃(dn':Nat→Bool) (zs':Nat→Nat) (bd':Nat→Value),VS kt B k g p q f T un ul rd bl dn' zs' bd' w')∧Fr (fun j=>j=q∨j=f) w w'∧
   (((∀x,a≤x→x<b→stF kt T bl (x/(T.L.K*T.L.C))=0)∧e=.returned (.tuple #[.string ⟨(zCZ kt T bl a b).toArray⟩,.bool true]))∨((∃x,a≤x∧x<b∧stF kt T bl (x/(T.L.K*T.L.C))≠0)∧e=.returned (.tuple #[.string ⟨#[]⟩,.bool false])))
theorem zJO (kt:Nat→Int)(B k g p q f a b:Nat)(T:TT)(un:Value)(ul:List Nat)(rd:Nat→Bool)(bl:Nat→ByteArray)(dn:Nat→Bool)(zs:Nat→Nat)(bd:Nat→Value)(w:World)(h:VS kt B k g p q f T un ul rd bl dn zs bd w)(hT:zt T)(dC:T.L.es.length≤16∧zM T.L.es≤4096)(hG:Gd kt w)(hB:B≤w.heap.size)(dA:a≤b)(hb:b≤zM T.L.es):
 Calls Tryz.prog 161 #[.pointer (some ⟨k,0,none⟩),.int .i64 a,.int .i64 b] w fun e w'=>zPq kt B k g p q f T un ul rd bl a b w e w':=by
 have H:Hid _:=h
 obtain⟨aE,kE,num,first,vB,hg,dE⟩:=h.hd
 have bW:=hT.k1;have bX:=hT.km;have bQ:=hT.c1;have aI:=hT.c64;have bS:=hT.cnt
 obtain⟨K,F⟩:∃x,T.L.K=x:=⟨_,rfl⟩
 obtain⟨M,aO⟩:∃x,T.L.M=x:=⟨_,rfl⟩
 obtain⟨C,a8⟩:∃x,T.L.C=x:=⟨_,rfl⟩
 obtain⟨V,d9⟩:∃x,T.L.V=x:=⟨_,rfl⟩
 have c0:w.cell? ⟨k,0,none⟩=some (.pointer (some ⟨g,0,none⟩)):=cell_of_row _ _ _ _ 114 _ h.row
 rw[F,aO,a8,d9]at hg
 rw[F]at bW bX
 rw[aO]at bX
 rw[a8]at bQ aI
 have c2:w.cell? ⟨g,2,none⟩=some (.int .i64 K):=cell_of_row _ _ _ _ 157 _ hg
 have c3:w.cell? ⟨g,3,none⟩=some (.int .i64 M):=cell_of_row _ _ _ _ 157 _ hg
 have c4:w.cell? ⟨g,4,none⟩=some (.int .i64 C):=cell_of_row _ _ _ _ 157 _ hg
 have c5:w.cell? ⟨g,5,none⟩=some (.int .i64 V):=cell_of_row _ _ _ _ 157 _ hg
 obtain⟨z,hz⟩:∃z,K*C=z:=⟨_,rfl⟩
 have b3:1≤z:=by rw[←hz];exact Nat.mul_pos bW bQ
 have fS:z≤16320:=by rw[←hz];exact Nat.le_trans (Nat.mul_le_mul (show K≤255 by omega) aI) (by omega)
 have fT:(K:Int)*(C:Int)=(z:Int):=by rw[←hz];simp
 have aF:T.L.K*T.L.C=z:=by rw[F,a8];exact hz
 obtain⟨n,hn⟩:∃n,K+M=n:=⟨_,rfl⟩
 have Z:T.n=n:=by unfold TT.n;rw[F,aO];exact hn
 have fG:0<T.n:=by rw[Z];omega
 have fH:(K:Int)+(M:Int)=(n:Int):=by omega
 obtain⟨J,aD⟩:∃x,T.L.cnt=x:=⟨_,rfl⟩
 have c8:T.L.ns*n=J:=by rw[←aD,←Z];rfl
 rw[aD]at bS
 have dD:∀x,x<b→x/z<T.L.ns:=fun x hx=>by
  have h1:T.L.ns=nst z (zM T.L.es):=by unfold LT.ns;rw[aF]
  rw[h1]
  unfold nst
  rw[Nat.div_lt_iff_lt_mul b3]
  have h2:=Nat.div_add_mod (zM T.L.es+z-1) z
  have h3:=Nat.mod_lt (zM T.L.es+z-1) b3
  rw[Nat.mul_comm]at h2
  omega
 obtain⟨W,hW⟩:∃W,w.alloc (.cells #[.int .i64 K,.int .i64 M,.int .i64 C,.int .i64 V] 81)=W:=⟨_,rfl⟩
 obtain⟨Y,hY⟩:∃Y,W.alloc (.cells #[.pointer none,.slice none 0 0] 275)=Y:=⟨_,rfl⟩
 have aU:Below w.heap.size w W:=by rw[←hW];exact (Below.refl _ _).alloc (Nat.le_refl _) _
 have aV:Below W.heap.size W Y:=by rw[←hY];exact (Below.refl _ _).alloc (Nat.le_refl _) _
 obtain⟨P,hP⟩:∃P,w.heap.size=P:=⟨_,rfl⟩
 have aA:W.heap[P]? =some (.cells #[.int .i64 K,.int .i64 M,.int .i64 C,.int .i64 V] 81 (0,0)):=by rw[←hW,←hP];exact heap_alloc_new _ _
 have aS:W.heap.size=P+1:=by rw[←hW,←hP];simp
 have bO:Y.heap[P]? =some (.cells #[.int .i64 K,.int .i64 M,.int .i64 C,.int .i64 V] 81 (0,0)):=(aV.block P (by omega)).trans aA
 have aH:Bld (P+1) [] Y:=by rw[←hY,←aS];exact Bld.fresh W
 have x0:W.cell? ⟨P,0,none⟩=some (.int .i64 K):=cell_of_row _ _ _ _ 81 _ aA
 have x2:W.cell? ⟨P,2,none⟩=some (.int .i64 C):=cell_of_row _ _ _ _ 81 _ aA
 have HY:Hid (Below w.heap.size w Y):=aU.trans (aV.mono aU.size)
 have cW:Hid _:=bO
 have b9:Hid _:=aH
 have HP:Hid (w.heap.size=P):=hP
 have d3:Hid _:=aS
 have cP:Hid _:=hY
 have cR:Hid _:=dC
 clear h hg dE aU aV aA bO aH hY aS
 go_enter Tryz.func161,Tryz.ntmps161
 go_wp2_with fail
 obtain⟨b0,aT⟩:∃x,P+1=x:=⟨_,rfl⟩
 rw[cP.out,d3.out,aT]
 rw[aT]at b9
 have fD:P<b0:=by omega
 clear x0 x2 c0 c2 c3 c4 c5 hW aT
 go_loopw [1] (fun xv wr=>∃(x:Nat) (d7:Nat→Bool) (dL:Nat→Nat) (d4:Nat→Value),a≤x∧x≤b∧xv=.int .i64 x∧VS kt B k g p q f T un ul rd bl d7 dL d4 wr∧Bld b0 (zCZ kt T bl a x) wr∧wr.heap[P]? =some (.cells #[.int .i64 K,.int .i64 M,.int .i64 C,.int .i64 V] 81 (0,0))∧Fr (fun j=>j=q∨j=f) w wr∧∀y,a≤y→y<x→stF kt T bl (y/z)=0) (fun xv _=>b-(intOf xv).toNat)
 case atStart=>exact⟨a,dn,zs,bd,Nat.le_refl _,dA,rfl,H.out.below HY.out,by rw[show zCZ kt T bl a a=[] by simp[zCZ]];exact b9.out,cW.out,Fr.below HY.out,fun y h1 h2=>by omega⟩
 case round=>
  obtain⟨x,aL,dM,d5,bP,fO,rfl,hV,aN,aQ,hF,aY⟩:=hrel
  have HV:Hid _:=hV
  have a5:Hid _:=aN
  have a7:Hid _:=aQ
  have HF:Hid _:=hF
  have bC:Hid _:=aY
  by_cases bZ:x<b
  ·have dX:(x:Int)<(b:Int):=by omega
   have hd:=zAf x z (by omega)
   have fQ:((z:Int) == 0)=false:=by simp;omega
   obtain⟨s,hs⟩:∃s,x/z=s:=⟨_,rfl⟩
   rw[hs]at hd
   have dB:=zDz b3 hs
   have aZ:s<T.L.ns:=by rw[←hs];exact dD x bZ
   have cX:Hid _:=zAw kt B k g p q f s T un ul rd bl aL dM d5 wr hV hT cR.out (H.out.gd hG hF) (Nat.le_trans hB hF.size) aZ
   have HS:Hid _:=hs
   clear hV aN aQ hF aY hs
   go_wp2_with fail
   refine Calls.mono cX.out ?_
   rintro e w1 ⟨dN,f6,rfl,aR,a9,_,_⟩
   have bT:zAx aL s true s=true:=by simp[zAx]
   obtain⟨zr,_⟩:=aR.fn s aZ bT
   obtain⟨fa,aX⟩:∃x,stF kt T bl s=x:=⟨_,rfl⟩
   obtain⟨zq,b4⟩:∃x,dN s=x:=⟨_,rfl⟩
   rw[aX,b4]at zr
   rw[b4]
   have d1:w1.cell? ⟨zq,1,none⟩=some (.int .i64 fa):=cell_of_row _ _ _ _ 216 _ zr
   have aK:Hid _:=aR
   have bB:Hid _:=aX
   have cI:Hid (Bld b0 (zCZ kt T bl a x) w1):=HV.out.bld a5.out a9
   have a6:Hid (w1.heap[P]? =some (.cells #[.int .i64 K,.int .i64 M,.int .i64 C,.int .i64 V] 81 (0,0))):=by
    show w1.heap[P]? =_
    rw[a9.old P (Array.getElem?_eq_some_iff.1 a7.out).1 (fun e=>by
     rcases e with e|e
     ·exact zE a7.out HV.out.blR (by decide) e
     ·exact zE a7.out HV.out.fiR (by decide) e)]
    exact a7.out
   have bA:Hid _:=HF.out.trans' a9
   clear aR a9 zr b4 aX
   by_cases U:fa=0
   ·have bU:((fa:Int) != 0)=false:=by simp[U]
    have aJ:Hid (stF kt T bl s=0):=bB.out.trans U
    obtain⟨G,aC⟩:∃y,s*z=y:=⟨_,rfl⟩
    rw[aC]at dB
    have dU:(s:Int)*(z:Int)=(G:Int):=by rw[←aC];simp
    obtain⟨u,hu⟩:∃y,min b (G+z)=y:=⟨_,rfl⟩
    have fN:min (b:Int) ((G:Int)+(z:Int))=(u:Int):=by omega
    obtain⟨o,ho⟩:∃y,s*n=y:=⟨_,rfl⟩
    have fI:(s:Int)*(n:Int)=(o:Int):=by rw[←ho];simp
    have fK:o+n≤J:=by rw[←c8,←ho,←Nat.succ_mul];exact Nat.mul_le_mul_right n aZ
    have fJ:o<J:=by omega
    have c9:∀X,(Instr.slice 22 (.slice (some ⟨q,0,none⟩) J J) (some (.int .i64 (o:Nat))) none none).run Tryz.prog X=.ok (.slice (some ⟨q,o,none⟩) (J-o) (J-o)) X:=fun X=>by
     rw[zDe X q J o (by omega)]
     unfold zE9
     rw[if_neg (by omega)]
    obtain⟨rm,dF⟩:∃y,J-o=y:=⟨_,rfl⟩
    rw[dF]at c9
    have fB:(K:Int)≤(rm:Int):=by omega
    have m3:w1.cell? ⟨k,3,none⟩=some (.slice (some ⟨q,0,none⟩) J J):=by rw[←aD];exact cell_of_row _ _ _ _ 114 _ aK.out.row
    have m0:w1.cell? ⟨P,0,none⟩=some (.int .i64 K):=cell_of_row _ _ _ _ 81 _ a6.out
    have m1:w1.cell? ⟨P,1,none⟩=some (.int .i64 M):=cell_of_row _ _ _ _ 81 _ a6.out
    have a4:Hid _:=aC
    have cT:Hid _:=ho
    have HU:Hid _:=hu
    have fL:s≤512:=by
     have h1:s*1≤s*n:=Nat.mul_le_mul_left s (by omega)
     omega
    have dT:G≤4096:=by omega
    clear U aC ho hu
    go_wp2_with fail
    go_quiet (fail)
    go_wp2_with fail
    obtain⟨w2,b2⟩:∃X,w1.drewN nq=X:=⟨_,rfl⟩
    have N:Below w1.heap.size w1 w2:=by rw[←b2];exact below_drewN (Below.refl _ _) _
    rw[b2]
    have aB:=aK.out.below N
    have cZ:Hid _:=aB
    have cJ:Hid (Bld b0 (zCZ kt T bl a x) w2):=Bld.below cI.out N
    have bD:Hid (w2.heap[P]? =some (.cells #[.int .i64 K,.int .i64 M,.int .i64 C,.int .i64 V] 81 (0,0))):=(N.block P (Array.getElem?_eq_some_iff.1 a6.out).1).trans a6.out
    have cM:Hid _:=bA.out.thenBelow N
    have cA:=zDi aJ.out
    have b1:∀i,i<n→(stM kt T bl s i).size=C:=fun i hi=>by rw[←a8];exact zAK (cA.1 i (by rw[Z];exact hi)).1
    have R:∀i,i<K→w2.cell? ⟨q,o+i,none⟩=some (.string (stM kt T bl s i)):=fun i hi=>by
     have hc:=aB.blR.cell (o+i) (by rw[aD];omega)
     rw[hc]
     show some (Value.string (blD kt T bl (zAx aL s true) (o+i)))=_
     have aW:=zBi (s:=s) (n:=T.n) (i:=i) (by rw[Z];omega)
     rw[show s*T.n+i=o+i by rw[Z,cT.out]]at aW
     unfold blD
     rw[aW.1,aW.2,if_pos ⟨bT,aJ.out⟩]
    have HJ:Hid _:=zAs (stM kt T bl s) q o K rm C w2 (Array.getElem?_eq_some_iff.1 aB.blR).1 (by omega) (by omega) (by omega) (fun i hi=>Nat.le_of_eq (b1 i (by omega))) R
    have bK:(stD kt T bl s).size=z:=by unfold stD;rw[F,←hz];exact zLz _ C K (fun i hi=>b1 i (by omega))
    have bJ:jT (stM kt T bl s) K=stD kt T bl s:=by unfold stD;rw[F]
    rw[bJ]at HJ
    obtain⟨lo,bY⟩:∃y,x-G=y:=⟨_,rfl⟩
    obtain⟨hi,bV⟩:∃y,u-G=y:=⟨_,rfl⟩
    have fM:=HU.out
    have dW:(x:Int)-(G:Int)=(lo:Int):=by omega
    have dV:(u:Int)-(G:Int)=(hi:Int):=by omega
    have bE:Hid (((stD kt T bl s).extract lo hi).data.toList=zCZ kt T bl x u):=by
     have:=zMm (kt:=kt) (bl:=bl) (s:=s) (a:=x) (b:=u) aF (by rw[a4.out];omega) (by omega) (by rw[a4.out];omega) bK
     rw[a4.out,bY,bV]at this
     exact this
    obtain⟨D,hD⟩:∃D,stD kt T bl s=D:=⟨_,rfl⟩
    rw[hD]at HJ bE bK
    have dY:∀X,(Instr.slice 9 (.string D) (some (.int .i64 ((lo:Nat):Int))) (some (.int .i64 ((hi:Nat):Int))) none).run Tryz.prog X=.ok (.string (D.extract lo hi)) X:=fun X=>by
     rw[run_slice_string X 9 D .i64 .i64 _ _ Tryz.underlying9 (by omega) (by omega) (by omega),Int.toNat_natCast,Int.toNat_natCast]
    have fP:x<u:=by omega
    have dG:u≤b:=by omega
    have f0:u≤G+z:=by omega
    clear b2 N aB cA b1 R bJ hD bY bV m0 m1 m3 d1 c9
    refine Calls.mono HJ.out ?_
    rintro e w3 ⟨rfl,Q⟩
    have d0:Hid _:=cZ.out.below Q
    have b7:Hid (Bld b0 (zCZ kt T bl a x) w3):=Bld.below cJ.out Q
    have cU:Hid (w3.heap[P]? =some (.cells #[.int .i64 K,.int .i64 M,.int .i64 C,.int .i64 V] 81 (0,0))):=(Q.block P (Array.getElem?_eq_some_iff.1 bD.out).1).trans bD.out
    have cN:Hid _:=cM.out.thenBelow Q
    clear Q
    go_wp2_with fail
    refine Calls.mono (zAy b0 (zCZ kt T bl a x) (D.extract lo hi) w3 b7.out (by rw[zF9,ByteArray.size_extract];omega)) ?_
    rintro e w4 ⟨rfl,aG,bH,aP⟩
    obtain⟨d6,A⟩:=Bld.row b7.out
    have d2:Hid _:=d0.out.oth A aP
    have cV:Hid (w4.heap[P]? =some (.cells #[.int .i64 K,.int .i64 M,.int .i64 C,.int .i64 V] 81 (0,0))):=aP.row cU.out (by omega) (by decide)
    have cO:Hid _:=cN.out.thenLow bH (by rw[HP.out];omega)
    have cK:Hid (Bld b0 (zCZ kt T bl a u) w4):=by
     show Bld b0 (zCZ kt T bl a u) w4
     rw[zKB kt T bl a x u bP (by omega),←bE.out]
     exact aG
    clear aG bH aP A
    go_wp2_with fail
    go_roundw
    case rel=>exact⟨u,_,_,_,by omega,dG,rfl,d2.out,cK.out,cV.out,cO.out,fun y h1 h2=>by
     by_cases dH:y<x
     ·exact bC.out y h1 dH
     ·have hy:=zBi (s:=s) (n:=z) (i:=y-G) (by omega)
      rw[show s*z+(y-G)=y by rw[a4.out];omega]at hy
      rw[hy.1];exact aJ.out⟩
    case measure=>simp[intOf];omega
   ·have bU:((fa:Int) != 0)=true:=by simp;omega
    have cS:Hid (stF kt T bl (x/(T.L.K*T.L.C))≠0):=by show stF kt T bl (x/(T.L.K*T.L.C))≠0;rw[aF,HS.out,bB.out];exact U
    clear U
    go_wp2_with fail
    go_ret2
    exact⟨⟨_,_,_,aK.out⟩,bA.out,.inr ⟨⟨x,bP,bZ,cS.out⟩,rfl⟩⟩
  ·have ex:x=b:=by omega
   subst ex
   go_wp2_with fail
   refine Calls.mono (zKX b0 b0 _ wr a5.out (Nat.le_of_lt (Bld.lt a5.out))) ?_
   rintro e w1 ⟨rfl,_,bG,bM⟩
   obtain⟨d6,A⟩:=Bld.row a5.out
   have cY:Hid _:=HV.out.oth A bM
   have cL:Hid _:=HF.out.thenLow bG (by rw[HP.out];omega)
   clear bG bM A hV aN aQ hF aY
   go_wp2_with fail
   go_ret2
   exact⟨⟨_,_,_,cY.out⟩,cL.out,.inl ⟨fun y h1 h2=>by rw[aF];exact bC.out y h1 h2,rfl⟩⟩
def unO (kt:Nat→Int)(T:TT)(bl:Nat→ByteArray)(j:Nat):Ob:=(nmE T.L.es j,⟨(zCZ kt T bl (zM (T.L.es.take j)) (zM (T.L.es.take j)+lnE T.L.es j)).toArray⟩)
theorem zBT (es:List (ByteArray×Nat))(j:Nat)(u:j<es.length):zM (es.take (j+1))=zM (es.take j)+lnE es j:=by
 rw[zBL es j u]
 unfold lnE
 rw[List.getElem?_eq_getElem u]
 rfl
theorem VS.grow {kt:Nat→Int}{B k g p q f:Nat}{T:TT}{un:Value}{ul:List Nat}{rd:Nat→Bool}{bl:Nat→ByteArray}{dn:Nat→Bool}{R:Nat→Nat}{F:Nat→Value}{w Q:World}{U n:Nat}{v:Value}{Z:List Value}(h:VS kt B k g p q f T un ul rd bl dn R F w)(N:w.ownsRow U 149 2 v n Z)(J:w.grownBy Q v.ownBlock):VS kt B k g p q f T un ul rd bl dn R F Q:=
 h.kept (fun j cs t X D=>by
  rw[J.block j (Array.getElem?_eq_some_iff.1 D).1 (fun e=>by
   obtain⟨cur,u⟩:=zB N j e.symm
   exact zE D u (by rcases X with e|e|e|e|e|e|e<;>simp[e]) rfl)]
  exact D) (fun j D=>by
  have W:∃cur,w.heap[j]? =some (.cells cur 3 (0,0)):=by
   rcases D with e|⟨s,hs,hd,e⟩
   ·exact zB h.unO j e
   ·exact zB (h.fn s hs hd).2 j e
  obtain⟨cur,u⟩:=W
  exact J.block j (Array.getElem?_eq_some_iff.1 u).1 (fun e=>by
   obtain⟨G,A⟩:=zB N j e.symm
   exact zE u A (by decide) rfl))
theorem zJv (w:World)(x y:ByteArray):(w.alloc (.cells #[.string x,.string y] 149)).ownsRow w.heap.size 149 2 (.slice (some ⟨w.heap.size,0,none⟩) 1 1) 1 [.string x,.string y]:=
 ⟨rfl,.inr ⟨w.heap.size,1,#[.string x,.string y],rfl,Nat.le_refl _,heap_alloc_new _ _,Nat.le_refl _,by unfold maxLen;omega,rfl,rfl⟩⟩
theorem zMQ {w:World}{B n:Nat}{v:Value}{F:Nat→Ob}(h:OwnF w B v n F)(U:B≤w.heap.size)(W:n≤1000000)(x y:ByteArray):∃j w',(Builtin.append_ #[102,102] 102 #[v,.slice (some ⟨w.heap.size,0,none⟩) 1 1]).run Tryz.prog (w.alloc (.cells #[.string x,.string y] 149))=.ok j w'∧OwnF w' B j (n+1) (zIs F n (x,y))∧(w.alloc (.cells #[.string x,.string y] 149)).grownBy w' v.ownBlock:=by
 obtain⟨X,A,N,Q,R⟩:=info_parts zHc
 obtain⟨j,w',J,G,D,_⟩:=zV 102 Tryz.underlying102 A N Q R rfl (by decide) (h.alloc (.cells #[.string x,.string y] 149)) (zJv w x y) (by intro u hu;simp at hu;rcases hu with rfl|rfl<;>rfl) (by omega) (by omega) (by simp;omega)
 refine⟨j,w',J,?_,D⟩
 unfold OwnF
 rw[zED]
 exact G
end Go.Proofs.YtlopecgkiikdhaaGreatDoor
namespace Go.Proofs.YtlopecgkiikdhaaGreatDoor
open Go.RowKit Go.MuLone
set_option maxRecDepth 100000
set_option maxHeartbeats 4000000
theorem zPR (k g:Nat)(root:ByteArray)(w:World)(c0:w.cell? ⟨k,0,none⟩=some (.pointer (some ⟨g,0,none⟩)))(g0:w.cell? ⟨g,0,none⟩=some (.string root)):Calls Tryz.prog 58 #[.pointer (some ⟨k,0,none⟩)] w fun e w'=>e=.returned (.string root)∧w'=w:=by
 go_enter Tryz.func58,Tryz.ntmps58
 go_wp2_with fail
 go_ret
 exact⟨rfl,rfl⟩
theorem zKA (k g B ne A:Nat)(u:Option Addr)(es:List (ByteArray×Nat))(w:World)(c0:w.cell? ⟨k,0,none⟩=some (.pointer (some ⟨g,0,none⟩)))(J:w.cell? ⟨g,6,none⟩=some (.slice u ne A))(j:w.ownsRow B 131 2 (.slice u ne A) ne (enV es))(G:ne≤1000000):Calls Tryz.prog 59 #[.pointer (some ⟨k,0,none⟩)] w fun e w'=>∃v,e=.returned v∧w'.ownsRow w.heap.size 131 2 v ne (enV es)∧Below w.heap.size w w':=by
 have D:Hid _:=zLS B ne (.slice u ne A) es w j G
 clear j
 go_enter Tryz.func59,Tryz.ntmps59
 go_wp2_with fail
 refine Calls.mono D.out ?_
 rintro e N ⟨v,rfl,j,hb⟩
 have F:Hid _:=j
 have HB:Hid _:=hb
 clear j hb
 go_wp2_with fail
 go_ret
 exact⟨v,rfl,F.out,HB.out⟩
theorem zMh (k g K M C V:Nat)(w:World)(c0:w.cell? ⟨k,0,none⟩=some (.pointer (some ⟨g,0,none⟩)))(g2:w.cell? ⟨g,2,none⟩=some (.int .i64 K))(A:w.cell? ⟨g,3,none⟩=some (.int .i64 M))(D:w.cell? ⟨g,4,none⟩=some (.int .i64 C))(F:w.cell? ⟨g,5,none⟩=some (.int .i64 V)):
 Calls Tryz.prog 57 #[.pointer (some ⟨k,0,none⟩)] w fun e w'=>e=.returned (.agg #[.int .i64 K,.int .i64 M,.int .i64 C,.int .i64 V])∧Below w.heap.size w w':=by
 have u:=block_lt_of_cell c0
 have j:=block_lt_of_cell g2
 go_enter Tryz.func57,Tryz.ntmps57
 go_wp2_with fail
 refine bodyPost_ret (v:=.agg #[.int .i64 K,.int .i64 M,.int .i64 C,.int .i64 V]) ?_ rfl ?_
 ·exact results_cell_row Tryz.results57 _ _ w.heap.size 81 #[.int .i64 K,.int .i64 M,.int .i64 C,.int .i64 V] (0,0) _ rfl (heap_alloc_new _ _) Tryz.underlying81 rfl (by kernel_rfl)
 ·exact⟨rfl,(Below.refl _ _).alloc (Nat.le_refl _) _⟩
def VK (kt:Nat→Int)(B v k g p q f:Nat)(T:TT)(un:Value)(ul:List Nat)(rd:Nat→Bool)(bl:Nat→ByteArray)(w:World):Prop:=VL v k 0 w∧∃(dn:Nat→Bool) (zs:Nat→Nat) (bd:Nat→Value),VS kt B k g p q f T un ul rd bl dn zs bd w
theorem zPY (kt:Nat→Int)(B v k g p q f:Nat)(T:TT)(un:Value)(ul:List Nat)(rd:Nat→Bool)(bl:Nat→ByteArray)(w:World)(h:VK kt B v k g p q f T un ul rd bl w):
 Calls Tryz.prog 28 #[.pointer (some ⟨v,0,none⟩)] w fun e w'=>e=.returned (.string T.root)∧VK kt B v k g p q f T un ul rd bl w'∧Fr (fun j=>j=q∨j=f∨j=v) w w':=by
 obtain⟨A,dn,W,J,h⟩:=h
 have F:Fr (fun j=>j=v) w (w.setCell ⟨v,0,none⟩ (.int .i32 1)):=(Fr.refl (fun j=>j=v) w).set (.inl rfl) _ _
 refine Calls.mono (zMA v k w (fun G w'=>G=.string T.root∧VK kt B v k g p q f T un ul rd bl w'∧Fr (fun j=>j=q∨j=f∨j=v) w w') A ?_) ?_
 ·have u:=h.set A (.inr rfl) 0 (.int .i32 1)
  obtain⟨X,Z,num,first,vB,R,U⟩:=u.hd
  refine Calls.mono (zPR k g T.root _ (cell_of_row _ _ _ _ 114 _ u.row) (cell_of_row _ _ _ _ 157 _ R)) ?_
  rintro e w' ⟨rfl,rfl⟩
  refine⟨_,rfl,VL.one A,rfl,⟨(VL.one A).zero,dn,W,J,u.set (VL.one A) (.inr rfl) _ _⟩,?_⟩
  exact (F.mono (T:=fun j=>j=q∨j=f∨j=v) (fun j _ e=>.inr (.inr e))).set (.inl (.inr (.inr rfl))) _ _
 ·rintro e w' ⟨a,rfl,D,N,Q⟩
  exact⟨by rw[D],N,Q⟩
theorem zKL (kt:Nat→Int)(B v k g p q f:Nat)(T:TT)(un:Value)(ul:List Nat)(rd:Nat→Bool)(bl:Nat→ByteArray)(w:World)(h:VK kt B v k g p q f T un ul rd bl w)(a4:T.L.es.length≤16):
 Calls Tryz.prog 30 #[.pointer (some ⟨v,0,none⟩)] w fun e w'=>∃N,e=.returned N∧VK kt B v k g p q f T un ul rd bl w'∧Fr (fun j=>j=q∨j=f∨j=v) w w'∧w'.ownsRow w.heap.size 131 2 N T.L.es.length (enV T.L.es):=by
 obtain⟨D,dn,zs,U,h⟩:=h
 have F:Fr (fun j=>j=v) w (w.setCell ⟨v,0,none⟩ (.int .i32 1)):=(Fr.refl (fun j=>j=v) w).set (.inl rfl) _ _
 refine Calls.mono (zGa v k w (fun J w'=>VK kt B v k g p q f T un ul rd bl w'∧Fr (fun j=>j=q∨j=f∨j=v) w w'∧w'.ownsRow w.heap.size 131 2 J T.L.es.length (enV T.L.es)) D ?_) ?_
 ·have A:=h.set D (.inr rfl) 0 (.int .i32 1)
  obtain⟨R,kE,num,first,vB,hg,G⟩:=A.hd
  refine Calls.mono (zKA k g B T.L.es.length kE R T.L.es _ (cell_of_row _ _ _ _ 114 _ A.row) (cell_of_row _ _ _ _ 157 _ hg) G (by omega)) ?_
  rintro e w' ⟨N,rfl,Q,hb⟩
  have u:VL v k 1 w':=(hb.block v (Array.getElem?_eq_some_iff.1 (VL.one D)).1).trans (VL.one D)
  have W:(w.setCell ⟨v,0,none⟩ (.int .i32 1)).heap.size=w.heap.size:=by simp[World.setCell]
  rw[W]at Q
  refine⟨_,rfl,u,⟨u.zero,dn,zs,U,(A.below hb).set u (.inr rfl) _ _⟩,?_,zAE Q u (by decide) _⟩
  exact ((F.mono (T:=fun j=>j=q∨j=f∨j=v) (fun j _ e=>.inr (.inr e))).thenBelow hb).set (.inl (.inr (.inr rfl))) _ _
 ·rintro e w' ⟨a,rfl,X,Z,h3⟩
  exact⟨a,rfl,X,Z,h3⟩
def zO6:Array Value:= #[.int .i64 0,.int .i64 0,.int .i64 0,.int .i64 0]
theorem zMr (kt:Nat→Int)(B v k g p q f:Nat)(T:TT)(un:Value)(ul:List Nat)(rd:Nat→Bool)(bl:Nat→ByteArray)(w:World)(h:VK kt B v k g p q f T un ul rd bl w):
 Calls Tryz.prog 25 #[.pointer (some ⟨v,0,none⟩)] w fun e w'=>e=.returned (.agg #[.int .i64 T.L.K,.int .i64 T.L.M,.int .i64 T.L.C,.int .i64 T.L.V])∧VK kt B v k g p q f T un ul rd bl w'∧Fr (fun j=>j=q∨j=f∨j=v) w w':=by
 obtain⟨hv,dn,zs,bd,h⟩:=h
 have aS:v<w.heap.size:=(Array.getElem?_eq_some_iff.1 hv).1
 obtain⟨W,hW⟩:∃W,w.alloc (.cells zO6 81)=W:=⟨_,rfl⟩
 have J:Below w.heap.size w W:=by rw[←hW];exact (Below.refl _ _).alloc (Nat.le_refl _) _
 have a9:W.heap[w.heap.size]? =some (.cells zO6 81 (0,0)):=by rw[←hW];exact heap_alloc_new _ _
 have F:VL v k 0 W:=(J.block v aS).trans hv
 have h0:W.cell? ⟨v,0,none⟩=some (.int .i32 0):=cell_of_row _ _ _ _ 70 _ F
 have f0:W.frozen? ⟨v,0,none⟩=false:=frozen_of_row _ _ _ _ 70 F
 have HL:Hid _:=lock_free muL ⟨v,0,none⟩ W h0 f0
 obtain⟨Y,hY⟩:∃Y,W.setCell ⟨v,0,none⟩ (.int .i32 1)=Y:=⟨_,rfl⟩
 have a1:VL v k 1 Y:=by rw[←hY];exact F.one
 have G:VS kt B k g p q f T un ul rd bl dn zs bd Y:=by rw[←hY];exact (h.below J).set F (.inr rfl) _ _
 have aA:Y.heap[w.heap.size]? =some (.cells zO6 81 (0,0)):=by rw[←hY,zC _ _ _ _ _ (by omega)];exact a9
 have a8:Fr (fun j=>j=q∨j=f∨j=v) w Y:=by rw[←hY];exact (Fr.below J).set (.inl (.inr (.inr rfl))) _ _
 obtain⟨aE,kE,num,first,vB,hg,aP⟩:=G.hd
 have aK:Hid _:=zMh k g T.L.K T.L.M T.L.C T.L.V Y (cell_of_row _ _ _ _ 114 _ G.row) (cell_of_row _ _ _ _ 157 _ hg) (cell_of_row _ _ _ _ 157 _ hg) (cell_of_row _ _ _ _ 157 _ hg) (cell_of_row _ _ _ _ 157 _ hg)
 have c2:Y.cell? ⟨v,2,none⟩=some (.pointer (some ⟨k,0,none⟩)):=cell_of_row _ _ _ _ 70 _ a1
 rw[hY]at HL
 have a6:Hid (VL v k 1 Y):=a1
 have aL:Hid _:=G
 have a7:Hid _:=aA
 have aI:Hid _:=a8
 have b1:w.alloc (.cells #[.int .i64 0,.int .i64 0,.int .i64 0,.int .i64 0] 81)=W:=hW
 clear hv h J a9 F h0 f0 hY a1 G aA a8 hW hg aP
 go_enter_defers Tryz.func25,Tryz.ntmps25
 go_wp2_with fail
 refine Calls.mono HL.out ?_
 rintro e w1 ⟨rfl,rfl⟩
 go_wp2_with fail
 refine Calls.mono aK.out ?_
 rintro e A ⟨rfl,D⟩
 have u:=(D.block _ (Array.getElem?_eq_some_iff.1 a7.out).1).trans a7.out
 have aD:VL v k 1 A:=(D.block v (Array.getElem?_eq_some_iff.1 a6.out).1).trans a6.out
 have X:Hid _:=aL.out.below D
 have aH:Hid _:=aI.out.thenBelow D
 obtain⟨r,hr⟩:∃r,w.heap.size=r:=⟨_,rfl⟩
 rw[hr]at u
 have p0:A.cell? ⟨r,0,none⟩=some (.int .i64 0):=cell_of_row _ _ _ _ 81 _ u
 have p1:A.cell? ⟨r,1,none⟩=some (.int .i64 0):=cell_of_row _ _ _ _ 81 _ u
 have p2:A.cell? ⟨r,2,none⟩=some (.int .i64 0):=cell_of_row _ _ _ _ 81 _ u
 have p3:A.cell? ⟨r,3,none⟩=some (.int .i64 0):=cell_of_row _ _ _ _ 81 _ u
 have fz:∀j,A.frozen? ⟨r,j,none⟩=false:=fun j=>frozen_of_row _ _ _ _ 81 u
 have a5:Hid _:=u
 have aM:Hid (VL v k 1 A):=aD
 have aJ:Hid (w.heap.size=r):=hr
 have Q:w.heap.size≤r:=Nat.le_of_eq hr
 have b2:v<r:=by omega
 clear u aD D hr
 rw[aJ.out]
 go_wp2_with fail
 have hR:=zH _ _ 3 (.int .i64 (T.L.V:Nat)) _ _ _ (zH _ _ 2 (.int .i64 (T.L.C:Nat)) _ _ _ (zH _ _ 1 (.int .i64 (T.L.M:Nat)) _ _ _ (zH _ _ 0 (.int .i64 (T.L.K:Nat)) _ _ _ a5.out)))
 have hk:∀(j:Nat) (c:Array Value) (t:TypeId),t≠81→A.heap[j]? =some (.cells c t (0,0))→((((A.setCell ⟨r,0,none⟩ (.int .i64 (T.L.K:Nat))).setCell ⟨r,1,none⟩ (.int .i64 (T.L.M:Nat))).setCell ⟨r,2,none⟩ (.int .i64 (T.L.C:Nat))).setCell ⟨r,3,none⟩ (.int .i64 (T.L.V:Nat))).heap[j]? =some (.cells c t (0,0)):=fun j c t ht hj=>by
  have N:=zE hj a5.out ht
  rw[zC _ _ _ _ _ N,zC _ _ _ _ _ N,zC _ _ _ _ _ N,zC _ _ _ _ _ N]
  exact hj
 have aN:=(((aH.out.set (g:=r) (.inr Q) 0 (.int .i64 (T.L.K:Nat))).set (g:=r) (.inr Q) 1 (.int .i64 (T.L.M:Nat))).set (g:=r) (.inr Q) 2 (.int .i64 (T.L.C:Nat))).set (g:=r) (.inr Q) 3 (.int .i64 (T.L.V:Nat))
 have R:VL v k 1 _:=hk _ _ _ (by decide) aM.out
 have aO:=X.out.kept (w':=(((A.setCell ⟨r,0,none⟩ (.int .i64 (T.L.K:Nat))).setCell ⟨r,1,none⟩ (.int .i64 (T.L.M:Nat))).setCell ⟨r,2,none⟩ (.int .i64 (T.L.C:Nat))).setCell ⟨r,3,none⟩ (.int .i64 (T.L.V:Nat))) (fun j cs t ht hj=>hk j cs t (by rcases ht with e|e|e|e|e|e|e<;>simp[e]) hj) (fun j hj=>by
  have h3:∃cur,A.heap[j]? =some (.cells cur 3 (0,0)):=by
   rcases hj with e|⟨s,hs,hd,e⟩
   ·exact zB X.out.unO j e
   ·exact zB (X.out.fn s hs hd).2 j e
  obtain⟨cur,U⟩:=h3
  rw[hk _ _ _ (by decide) U,U])
 generalize (((A.setCell ⟨r,0,none⟩ (.int .i64 (T.L.K:Nat))).setCell ⟨r,1,none⟩ (.int .i64 (T.L.M:Nat))).setCell ⟨r,2,none⟩ (.int .i64 (T.L.C:Nat))).setCell ⟨r,3,none⟩ (.int .i64 (T.L.V:Nat))=Z at*
 refine leaves_cons (f:=56) (args:= #[.pointer (some ⟨v,0,none⟩)]) (by simp) (by simp[go_sem]) ?_
 refine (unlock_deferred muL ⟨v,0,none⟩ .returning Z (cell_of_row _ _ _ _ 70 _ R) (frozen_of_row _ _ _ _ 70 R)).mono ?_
 rintro e u' w3 ⟨rfl,rfl,rfl⟩
 have aC:(Z.setCell ⟨v,0,none⟩ (.int .i32 0)).heap[r]? =_:=(zC Z v 0 r _ (by omega)).trans hR
 exact⟨_,results_cell_row Tryz.results25 _ _ r 81 _ (0,0) _ rfl aC Tryz.underlying81 rfl (by kernel_rfl),rfl,⟨R.zero,dn,zs,bd,aO.set R (.inr rfl) _ _⟩,aN.set (.inl (.inr (.inr rfl))) _ _⟩
end Go.Proofs.YtlopecgkiikdhaaGreatDoor
