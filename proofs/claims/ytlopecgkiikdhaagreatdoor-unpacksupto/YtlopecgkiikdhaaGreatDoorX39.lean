import Derived.Test.YtlopecgkiikdhaaGreatDoorX35
namespace Go.Proofs.YtlopecgkiikdhaaGreatDoor
open Go.RowKit
set_option maxRecDepth 100000
set_option maxHeartbeats 8000000
def StD (kt:Nat→Int)(T:TT)(bl:Nat→ByteArray)(s:Nat)(w:World)(e:Ending)(w':World):Prop:=∃o,e=.returned (.tuple #[.int .i64 (stF kt T bl s:Nat),o])∧Below w.heap.size w w'∧((stF kt T bl s=0∧w'.ownsRow w.heap.size 9 1 o T.n (tV (stM kt T bl s) T.n))∨(stF kt T bl s≠0∧o=.slice none 0 0))
structure SI (kt:Nat→Int)(n b1 b2:Nat)(S:Nat→ByteArray)(h:Nat→Bool)(w:World)(i:Nat)(wr:World):Prop where
 r1:Rw wr b1 n 9 (zL i (tI S) (.string ⟨#[]⟩))
 r2:Rw wr b2 n 4 (zL i (bI h) (.bool false))
 lo1:w.heap.size≤b1
 lo2:w.heap.size≤b2
 bel:Below w.heap.size w wr
theorem SI.low {kt:Nat→Int}{n j u:Nat}{S:Nat→ByteArray}{h:Nat→Bool}{w:World}{i:Nat}{wr w':World}(H:SI kt n j u S h w i wr)(hb:Below wr.heap.size wr w'):SI kt n j u S h w i w':=
 ⟨(hb.block j H.r1.lt).trans H.r1,(hb.block u H.r2.lt).trans H.r2,H.lo1,H.lo2,H.bel.trans (hb.mono H.bel.size)⟩
theorem SI.put {kt:Nat→Int}{n u A:Nat}{S:Nat→ByteArray}{h:Nat→Bool}{w:World}{i:Nat}{wr:World}(H:SI kt n u A S h w i wr):SI kt n u A S h w (i+1) ((wr.setCell ⟨u,i,none⟩ (.string (S i))).setCell ⟨A,i,none⟩ (.bool (h i))):=by
 have D:u≠A:=zE H.r1 H.r2 (by decide)
 refine⟨?_,?_,H.lo1,H.lo2,(H.bel.setCell (p:=⟨u,i,none⟩) H.lo1 _).setCell (p:=⟨A,i,none⟩) H.lo2 _⟩
 ·show ((wr.setCell ⟨u,i,none⟩ (.string (S i))).setCell ⟨A,i,none⟩ (.bool (h i))).heap[u]? =_
  rw[zC _ _ _ _ _ D]
  exact (H.r1.put i _).to (fun j _=>by rw[←zN];rfl)
 ·have F:Rw (wr.setCell ⟨u,i,none⟩ (.string (S i))) A n 4 (zL i (bI h) (.bool false)):=by
   show (wr.setCell ⟨u,i,none⟩ (.string (S i))).heap[A]? =_
   rw[zC _ _ _ _ _ D.symm]
   exact H.r2
  exact (F.put i _).to (fun j _=>by rw[←zN];rfl)
theorem zHT {kt:Nat→Int}{K M C:Nat}{lv:ByteArray}{s len:Nat}{S:Nat→ByteArray}{h:Nat→Bool}{A j:Nat→ByteArray}(u:∀i,i<K+M→A i=j i)(N:K≤K+M):frg kt K M C lv s len S h A=frg kt K M C lv s len S h j:=by
 have F:(∀i,i<K+M→okI kt C lv (s*(K+M)) S h A i=true)↔∀i,i<K+M→okI kt C lv (s*(K+M)) S h j i=true:=by
  constructor
  ·intro D i hi
   have:=D i hi
   unfold okI at this ⊢
   rw[←u i hi]
   exact this
  ·intro D i hi
   have:=D i hi
   unfold okI at this ⊢
   rw[u i hi]
   exact this
 have J:tlT A K C s len=tlT j K C s len:=by
  unfold tlT
  rw[zBv (fun i hi=>u i (by omega))]
 unfold frg
 rw[J]
 by_cases e:∀i,i<K+M→okI kt C lv (s*(K+M)) S h A i=true
 ·rw[if_pos e,if_pos (F.1 e)]
 ·rw[if_neg e,if_neg (fun G=>e (F.2 G))]
theorem zKC {L u:Nat→ByteArray}{n:Nat}(h:∀j,j<n→L j=u j):tV L n=tV u n:=by
 unfold tV
 apply List.map_congr_left
 intro i hi
 rw[h i (List.mem_range.1 hi)]
theorem tkL {P:Program}{md}{u:Array Oper}{Q}{S:World→Prop}{A:Nat}{j:Array Bool}{a:Act}{w:World}{v:Value}{op ty pos af g}(i s:Nat)
 (h:wpAnyH P md u Q S A (j.setIfInBounds i true) (Act.put a (some s) v) w) (hi:u[i]? =some (Oper.mk (some s) op ty pos af g):=by exact rfl)
 (J:∀w,S w→(execOp a.eval (Oper.mk (some s) op ty pos af g)).run P w=.ok (.value v) w:=by (intro X hX;(try dsimp only at hX);go_simp;try with_reducible rfl))
 (G:Region.wanted (Oper.mk (some s) op ty pos af g) (yielded u a.tmps)=true:=by rfl)
 (hb:(Region.noSelect u&&Region.free md u j i&&(Region.ready md u j).contains i)=true:=by kernel_rfl) (D:∀c a w,Q (Exit.panic c) (Act.put a (some s) v) w→Q (Exit.panic c) a w:=by exact fun _ _ _ h=>h) (F:S w:=by assumption):wpAnyH P md u Q S (A+1) j a w:=by
 rw[Bool.and_eq_true,Bool.and_eq_true]at hb
 exact wpAnyH_take hi hb.1.1 hb.1.2 hb.2 D (.inl ⟨G,J⟩) F h
theorem tkR {P:Program}{md}{u:Array Oper}{Q}{S:World→Prop}{A:Nat}{j:Array Bool}{a:Act}{w:World}{op ty pos af g}(i s:Nat)
 (h:wpAnyH P md u Q S A (j.setIfInBounds i true) (Act.put a (some s) undef) w) (hi:u[i]? =some (Oper.mk (some s) op ty pos af g):=by exact rfl)
 (G:Region.wanted (Oper.mk (some s) op ty pos af g) (yielded u a.tmps)=false:=by rfl)
 (hb:(Region.noSelect u&&Region.free md u j i&&(Region.ready md u j).contains i)=true:=by kernel_rfl) (D:∀c a w,Q (Exit.panic c) (Act.put a (some s) undef) w→Q (Exit.panic c) a w:=by exact fun _ _ _ h=>h) (F:S w:=by assumption):wpAnyH P md u Q S (A+1) j a w:=by
 rw[Bool.and_eq_true,Bool.and_eq_true]at hb
 exact wpAnyH_take hi hb.1.1 hb.1.2 hb.2 D (.inr ⟨G,rfl⟩) F h
theorem zIW (kt:Nat→Int)(B v:Nat)(vH vU:Value)(hp:List (ByteArray×Nat))(un:List Nat)(t0:ByteArray)(s:Nat)(w:World)(H:RB kt B v vH vU hp un w)(hS:RSet kt t0 (hp.map Prod.fst))(hG:Gr kt w)(hs:s<(tT t0).L.ns)(hl:hp.length≤100000000):
 Calls Tryz.prog 87 #[.pointer (some ⟨v,0,none⟩),.int .i64 s] w fun e w'=>StD kt (tT t0) (blH (hp.map Prod.fst)) s w e w':=by
 have hT:zt (tT t0):=zAz (zY (hS.rd t0 hS.mem0)).2.1
 have dK:(tT t0).L.es.length≤16∧zM (tT t0).L.es≤4096:=zAQ (RS.on t0)
 obtain⟨bl,dE⟩:∃x,blH (hp.map Prod.fst)=x:=⟨_,rfl⟩
 obtain⟨T,d8⟩:∃x,tT t0=x:=⟨_,rfl⟩
 obtain⟨h0,g0,cH,rfl,hm,c0,c1,hh⟩:=H.top hS
 obtain⟨d0,d1,d2,d3⟩:=hh.nums
 obtain⟨aL,cL,d7,b7⟩:=hh.leaves
 obtain⟨aE,cE,d5,dN⟩:=hh.ents
 have aA:Hid (∀(X:World) (x:Nat),Below w.heap.size w X→x<(tT t0).L.cnt→Calls Tryz.prog 85 #[.pointer (some ⟨v,0,none⟩),.int .i64 x] X fun e w'=>GoD kt t0 (hp.map Prod.fst) x X e w'):=fun X x hX hx=>zN2 kt B v _ vU hp un t0 x X (H.low hX) hS (hG.below hX) hx hl
 unfold GoD at aA
 rw[dE,d8]at aA
 have bE:Hid (∀x,zAG kt (tT t0).L.C (tT t0).lv x (bl x)=true→(bl x).size=(tT t0).L.C):=fun x hx=>zAK hx
 rw[dE]
 rw[d8]at hT dK hs d0 d1 d2 d7 b7 d5 dN bE ⊢
 obtain⟨m,fQ⟩:∃x,hp.length=x:=⟨_,rfl⟩
 rw[fQ]at c0 hm
 clear H hS hh hl dE d8 fQ
 obtain⟨K,aW⟩:∃x,T.L.K=x:=⟨_,rfl⟩
 obtain⟨M,aX⟩:∃x,T.L.M=x:=⟨_,rfl⟩
 obtain⟨C,bG⟩:∃x,T.L.C=x:=⟨_,rfl⟩
 obtain⟨cnt,fK⟩:∃x,T.L.cnt=x:=⟨_,rfl⟩
 obtain⟨len,cP⟩:∃x,zM T.L.es=x:=⟨_,rfl⟩
 obtain⟨n,hn⟩:∃x,K+M=x:=⟨_,rfl⟩
 obtain⟨o,ho⟩:∃x,s*n=x:=⟨_,rfl⟩
 have d9:T.n=n:=by unfold TT.n;rw[aW,aX,hn]
 have gP:T.L.ns*n=cnt:=by rw[←fK,←hn,←aW,←aX];rfl
 have iI:o+n≤cnt:=by rw[←gP,←ho,←Nat.succ_mul];exact Nat.mul_le_mul_right n hs
 have fO:=hT.k1;have dJ:=hT.km;have dF:=hT.c1;have b0:=hT.c64;have fL:=hT.cnt
 rw[aW]at fO dJ d0
 rw[aX]at dJ d1
 rw[bG]at dF b0 d2
 rw[fK]at fL d7 b7 aA
 obtain⟨lv,bT⟩:∃x,T.lv=x:=⟨_,rfl⟩
 rw[bT]at b7 aA bE
 rw[bG]at aA bE
 obtain⟨gL,rfl,_⟩:=b7 o (by omega)
 obtain⟨S,d6⟩:∃S,stS T bl s=S:=⟨_,rfl⟩
 obtain⟨h,dG⟩:∃h,stH kt T bl s=h:=⟨_,rfl⟩
 have bJ:∀i,bl (o+i)=S i:=fun i=>by rw[←d6,←ho,←d9];rfl
 have cK:∀i,zAG kt C lv (o+i) (S i)=h i:=fun i=>by rw[←dG,←bJ,←ho,←d9,←bG,←bT];rfl
 have gE:Hid (∀(X:World) (i:Nat),Below w.heap.size w X→i<n→Calls Tryz.prog 85 #[.pointer (some ⟨v,0,none⟩),.int .i64 ((o:Int)+(i:Int))] X fun e w'=>e=.returned (.tuple #[.string (S i),.bool (h i)])∧Below X.heap.size X w'):=fun X i hX hi=>by
  have h1:=aA.out X (o+i) hX (by omega)
  rw[bJ,cK,show (((o+i:Nat)):Int)=(o:Int)+(i:Int) by omega]at h1
  exact h1
 have f6:Hid (∀i,h i=true→(S i).size=C):=fun i hi=>by
  rw[←bJ]
  exact bE.out _ (by rw[bJ,cK];exact hi)
 have gH:Hid (∀(X:World) (i:Nat),Below w.heap.size w X→i<n→X.cell? ⟨gL,o+i,none⟩=some (.string (pc lv 32 (o+i)))):=fun X i hX hi=>by
  obtain⟨g,e,hc⟩:=b7 (o+i) (by omega)
  cases e
  exact (hX.cell (p:=⟨gL,o+i,none⟩) (block_lt_of_cell hc)).trans hc
 have HV:Hid (∀X:World,Below w.heap.size w X→X.cell? ⟨v,0,none⟩=some (.slice (some ⟨g0,0,none⟩) m cH)∧X.cell? ⟨g0,0,none⟩=some (.pointer (some ⟨h0,0,none⟩))∧X.cell? ⟨h0,0,none⟩=some (.int .i64 K)∧X.cell? ⟨h0,1,none⟩=some (.int .i64 M)∧X.cell? ⟨h0,2,none⟩=some (.int .i64 C)∧X.cell? ⟨h0,7,none⟩=some (.slice (some ⟨gL,0,none⟩) cnt cL)):=fun X hX=>
  ⟨(hX.cell (p:=⟨v,0,none⟩) (block_lt_of_cell c0)).trans c0,(hX.cell (p:=⟨g0,0,none⟩) (block_lt_of_cell c1)).trans c1,(hX.cell (p:=⟨h0,0,none⟩) (block_lt_of_cell d0)).trans d0,(hX.cell (p:=⟨h0,1,none⟩) (block_lt_of_cell d1)).trans d1,(hX.cell (p:=⟨h0,2,none⟩) (block_lt_of_cell d2)).trans d2,(hX.cell (p:=⟨h0,7,none⟩) (block_lt_of_cell d7)).trans d7⟩
 have iG:(0:Int)<(m:Int):=by omega
 have iH:(K:Int)+(M:Int)=(n:Int):=by omega
 have iJ:(s:Int)*(n:Int)=(o:Int):=by rw[←ho];simp
 have m9:=run_make_row' (P:=Tryz.prog) 22 9 (.string ⟨#[]⟩) 16 Tryz.underlying22 zAl rfl .i64 .i64 n (by omega) (by omega)
 have m4:=run_make_row' (P:=Tryz.prog) 111 4 (.bool false) 1 Tryz.underlying111 zLx rfl .i64 .i64 n (by omega) (by omega)
 have i7:Hid _:=cK
 have f5:Hid _:=d6
 have cA:Hid _:=dG
 have a2:Hid (K+M=n):=hn
 have cT:Hid (s*n=o):=ho
 clear b7 aA bE bJ cK d6 dG hn ho
 go_enter Tryz.func87,Tryz.ntmps87
 go_wp2_with fail
 go_quiet (fail)
 obtain⟨X1,dA⟩:∃X,w.drewN nq=X:=⟨_,rfl⟩
 have b5:Below w.heap.size w X1:=by rw[←dA];exact below_drewN (Below.refl _ _) nq
 rw[dA]
 obtain⟨b1,dD⟩:∃x,X1.heap.size=x:=⟨_,rfl⟩
 obtain⟨X2,dB⟩:∃X,X1.alloc (.cells (madeCells #[.string ⟨#[]⟩] n) 9)=X:=⟨_,rfl⟩
 obtain⟨b2,bK⟩:∃x,X2.heap.size=x:=⟨_,rfl⟩
 obtain⟨X3,dC⟩:∃X,X2.alloc (.cells (madeCells #[.bool false] n) 4)=X:=⟨_,rfl⟩
 have cG:Below X1.heap.size X1 X2:=by rw[←dB];exact (Below.refl _ _).alloc (Nat.le_refl _) _
 have cZ:Below X2.heap.size X2 X3:=by rw[←dC];exact (Below.refl _ _).alloc (Nat.le_refl _) _
 have f8:Hid (SI kt n b1 b2 S h w 0 X3):=by
  have r1:Rw X2 b1 n 9 (fun _=>.string ⟨#[]⟩):=by rw[←dB,←dD];exact Rw.made X1 n 9 (.string ⟨#[]⟩)
  have r2:Rw X3 b2 n 4 (fun _=>.bool false):=by rw[←dC,←bK];exact Rw.made X2 n 4 (.bool false)
  refine⟨Rw.to (show Rw X3 b1 n 9 (fun _=>.string ⟨#[]⟩) from (cZ.block b1 r1.lt).trans r1) (fun j _=>by simp[zL]),r2.to (fun j _=>by simp[zL]),by rw[←dD];exact b5.size,by rw[←bK];exact Nat.le_trans b5.size cG.size,(b5.trans (cG.mono b5.size)).trans (cZ.mono (Nat.le_trans b5.size cG.size))⟩
 clear dA b5 cG cZ
 go_wp2_with fail
 clear dB dC dD bK m9 m4
 go_loopw [10,11,12] (fun iv _ _ wr=>∃i:Nat,i≤n∧iv=.int .i64 i∧SI kt n b1 b2 S h w i wr) (fun iv _ _ _=>n-(intOf iv).toNat)
 case atStart=>exact⟨0,Nat.zero_le _,rfl,f8.out⟩
 case round=>
  obtain⟨i,hi,rfl,hI⟩:=hrel
  have HI:Hid _:=hI
  by_cases Z:i<n
  ·have bS:(i:Int)<(n:Int):=by omega
   have f1:Hid _:=gE.out wr i hI.bel Z
   obtain⟨si,aZ⟩:∃x,S i=x:=⟨_,rfl⟩
   obtain⟨hb,aY⟩:∃x,h i=x:=⟨_,rfl⟩
   rw[aZ,aY]at f1
   clear hI
   go_wp2_with fail
   refine Calls.mono f1.out ?_
   rintro e w1 ⟨rfl,fJ⟩
   have aP:=HI.out.low fJ
   have y1:w1.cell? ⟨b1,i,none⟩=some (.string ⟨#[]⟩):=by have:=aP.r1.cell i Z;simpa[zL] using this
   have y2:w1.frozen? ⟨b1,i,none⟩=false:=aP.r1.free i
   have y3:w1.cell? ⟨b2,i,none⟩=some (.bool false):=by have:=aP.r2.cell i Z;simpa[zL] using this
   have y4:w1.frozen? ⟨b2,i,none⟩=false:=aP.r2.free i
   have dM:b1≠b2:=zE aP.r1 aP.r2 (by decide)
   have y5:(w1.setCell ⟨b1,i,none⟩ (.string si)).cell? ⟨b2,i,none⟩=some (.bool false):=by
    rw[World.cell?_of_block (zC _ _ _ _ _ dM.symm)];exact y3
   have y6:(w1.setCell ⟨b1,i,none⟩ (.string si)).frozen? ⟨b2,i,none⟩=false:=by
    rw[World.frozen?_of_block (zC _ _ _ _ _ dM.symm)];exact y4
   have gF:Hid (SI kt n b1 b2 S h w (i+1) ((w1.setCell ⟨b1,i,none⟩ (.string si)).setCell ⟨b2,i,none⟩ (.bool hb))):=by
    have:=aP.put;rw[aZ,aY]at this;exact this
   clear aP fJ aZ aY dM
   go_wp2_with fail
   go_roundw
   case rel=>exact⟨i+1,by omega,by go_num,gF.out⟩
   case measure=>simp[intOf];omega
  ·obtain rfl:n=i:=by omega
   have bS:¬(n:Int)<(n:Int):=by omega
   obtain⟨v0,v1,v2,v3,v4,v5⟩:=HV.out wr hI.bel
   have fA:∀j,j<n→wr.cell? ⟨b1,0+j,none⟩=some (.string (S j)):=fun j hj=>by
    have:=hI.r1.cell j hj
    rw[Nat.zero_add,this]
    simp[zL,hj,tI]
   have fB:∀j,j<n→wr.cell? ⟨b2,0+j,none⟩=some (.bool (h j)):=fun j hj=>by
    have:=hI.r2.cell j hj
    rw[Nat.zero_add,this]
    simp[zL,hj,bI]
   have c8:Hid (∀o:Out,((∃L:Nat,(hsL h n).length=L∧L<K∧o=.bad 14 L)∨((knL h K n).length=K∧o=.good n (zCz S (gt (knL h K n)) K C)))→∀X:World,Below wr.heap.size wr X→zOl o K M (.slice (some ⟨b1,0,none⟩) n n) (.slice (some ⟨b2,0,none⟩) n n) X):=fun o hc X hX=>by
    refine zIT o S h K M n n b1 0 n b2 0 n C X fO dJ a2.out.symm (by omega) (Nat.le_refl _) (fun j _ hj=>f6.out j hj) ?_ (Nat.lt_of_lt_of_le hI.r1.lt hX.size) (fun j hj=>(hX.cell (p:=⟨b1,0+j,none⟩) hI.r1.lt).trans (fA j hj)) (Nat.lt_of_lt_of_le hI.r2.lt hX.size) (fun j hj=>(hX.cell (p:=⟨b2,0+j,none⟩) hI.r2.lt).trans (fB j hj))
    rcases hc with h1|⟨h1,h2⟩
    ·exact .inr (.inl ⟨rfl,h1⟩)
    ·exact .inr (.inr ⟨rfl,h1,h2⟩)
   clear fA fB hI f8
   by_cases cM:Go.Proofs.YtlopecgkiikdhaaGreatDoor.cnt h n<K
   ·have HR:Hid _:=c8.out (.bad 14 ((hsL h n).length:Nat)) (.inl ⟨_,rfl,by rw[zDC];exact cM,rfl⟩)
    have dZ:Hid (stF kt T bl s=1):=zNG (by rw[aW,aX,cA.out,a2.out];exact cM)
    clear cM c8
    go_wp2_with fail
    go_region_held3 (fun Q=>Q.cell? ⟨h0,0,none⟩=some (.int .i64 K)∧Q.cell? ⟨h0,1,none⟩=some (.int .i64 M)) (first|exact⟨y2,y3⟩|exact⟨v2,v3⟩|go_keep) ((go_at_call 123;refine Calls.mono (HR.out _ (by first|exact (Below.refl _ _).drew|exact Below.refl _ _)) ?_;rintro e U ⟨x,y,rfl,g,c,rfl,rfl,_,_,G⟩;have u:Below w.heap.size w U:=(by first|exact HI.out.bel.trans (G.mono HI.out.bel.size)|exact HI.out.bel.drew.trans (G.mono HI.out.bel.size));have y2:U.cell? ⟨h0,0,none⟩=some (.int .i64 K):=(HV.out U u).2.2.1;have y3:U.cell? ⟨h0,1,none⟩=some (.int .i64 M):=(HV.out U u).2.2.2.1))
    have a1:Hid _:=u
    clear G u y2 y3 v0 v1 v2 v3 v4 v5
    go_wp2_with fail
    go_ret2
    exact⟨_,by rw[dZ.out];rfl,a1.out,.inr ⟨by rw[dZ.out];decide,rfl⟩⟩
   ·have fP:(knL h K n).length=K:=by rw[zCJ];omega
    have HR:Hid _:=c8.out (.good n (zCz S (gt (knL h K n)) K C)) (.inr ⟨fP,rfl⟩)
    have d4:K≤Go.Proofs.YtlopecgkiikdhaaGreatDoor.cnt h n:=by omega
    obtain⟨A,hA⟩:∃A,zCz S (gt (knL h K n)) K C=A:=⟨_,rfl⟩
    have cR:Hid (∀j,(A j).size=C):=fun j=>by rw[←hA];exact zIP _ _ _ _ _
    have f7:Hid (∀j,j<n→stM kt T bl s j=A j):=fun j hj=>by
     rw[←hA]
     unfold stM
     rw[f5.out,cA.out,aW,aX,bG,←a2.out]
     exact zNt (by omega) (by rw[a2.out];exact d4) (fun i _ hi=>f6.out i hi) (by rw[a2.out];exact hj)
    have f2:Hid (T.L.K≤Go.Proofs.YtlopecgkiikdhaaGreatDoor.cnt (stH kt T bl s) (T.L.K+T.L.M)):=by show _≤_;rw[aW,aX,cA.out,a2.out];exact d4
    have f0:Hid (frg kt T.L.K T.L.M T.L.C T.lv s (zM T.L.es) (stS T bl s) (stH kt T bl s) (stM kt T bl s)=frg kt K M C lv s len S h A):=by
     show _=_
     rw[aW,aX,bG,bT,cP,f5.out,cA.out]
     exact zHT (fun j hj=>f7.out j (by rw[←a2.out];exact hj)) (by omega)
    have cC:Hid (∀j,j<n→¬okJ kt K C lv o s len S h A j→stF kt T bl s=2):=fun j hj aN=>zNH f2.out (by rw[f0.out];exact zLf (i:=j) dF (fun i _=>cR.out i) (by rw[a2.out];exact hj) (by rw[a2.out,cT.out];exact aN))
    have gI:Hid ((∀j,j<n→okJ kt K C lv o s len S h A j)→stF kt T bl s=0):=fun hall=>zNF f2.out (by rw[f0.out];exact zNK dF (fun i _=>cR.out i) (fun j hj=>by rw[a2.out,cT.out];exact hall j (by rw[←a2.out];exact hj)))
    have iD:K≤n:=by have:=a2.out;omega
    rw[hA]at HR
    clear cM c8 fP d4 hA
    go_wp2_with fail
    go_region_held3 (fun Q=>Q.cell? ⟨h0,0,none⟩=some (.int .i64 K)∧Q.cell? ⟨h0,1,none⟩=some (.int .i64 M)) (first|exact⟨y2,y3⟩|exact⟨v2,v3⟩|go_keep) ((go_at_call 123;refine Calls.mono (HR.out _ (by first|exact (Below.refl _ _).drew|exact Below.refl _ _)) ?_;rintro e U ⟨x,y,rfl,rfl,fS,G⟩;have u:Below w.heap.size w U:=(by first|exact HI.out.bel.trans (G.mono HI.out.bel.size)|exact HI.out.bel.drew.trans (G.mono HI.out.bel.size));have fG:Below wr.heap.size wr U:=(by first|exact G|exact ((Below.refl _ _).drew).trans G);have y2:U.cell? ⟨h0,0,none⟩=some (.int .i64 K):=(HV.out U u).2.2.1;have y3:U.cell? ⟨h0,1,none⟩=some (.int .i64 M):=(HV.out U u).2.2.2.1))
    have bU:U.ownsRow w.heap.size 9 1 x n (tV A n):=zP fS HI.out.bel.size
    obtain⟨gO,cO,rfl,iE,fM,fD⟩:=zAb bU (by omega)
    have cU:Hid _:=bU
    have fF:=HI.out.low fG
    obtain⟨_,_,z0,z1,z2,z7⟩:=HV.out U u
    obtain⟨sk,cN⟩:∃x,s*K=x:=⟨_,rfl⟩
    obtain⟨fr,cJ⟩:∃x,sk*C=x:=⟨_,rfl⟩
    have bV:s≤512:=by have h1:s*1≤s*n:=Nat.mul_le_mul_left s (by omega);have h2:=cT.out;omega
    have fU:sk≤200000:=by rw[←cN];exact Nat.le_trans (Nat.mul_le_mul bV (show K≤255 by omega)) (by decide)
    have i2:fr≤20000000:=by rw[←cJ];exact Nat.le_trans (Nat.mul_le_mul fU b0) (by decide)
    have gD:Hid (s*(K*C)=fr):=by show _=_;rw[←cJ,←cN,Nat.mul_assoc]
    have e1:(s:Int)*(K:Int)=(sk:Int):=by rw[←cN];simp
    have e2:(sk:Int)*(C:Int)=(fr:Int):=by rw[←cJ];simp
    clear cN cJ bV
    clear G fS bU y2 y3 v0 v1 v2 v3 v4 v5
    have a1:Hid (Below w.heap.size w U):=u
    have f4:Hid _:=fF
    have dX:Hid (Cl U gO n (tI A)):=fD
    clear u fG fF fD
    go_wp2_with fail
    go_quiet (fail)
    obtain⟨Y,hY⟩:∃X,U.drewN nq=X:=⟨_,rfl⟩
    have b6:Below U.heap.size U Y:=by rw[←hY];exact below_drewN (Below.refl _ _) nq
    have bZ:Hid (Below w.heap.size w Y):=a1.out.trans (b6.mono a1.out.size)
    have cD:Hid _:=f4.out.low b6
    have f3:Hid (Y.ownsRow w.heap.size 9 1 (.slice (some ⟨gO,0,none⟩) n cO) n (tV A n)):=zD cU.out (fun q hq=>b6.block q (zG cU.out q hq))
    have gB:Hid (∀j,j<n→Y.cell? ⟨gO,j,none⟩=some (.string (A j))):=fun j hj=>(b6.cell (p:=⟨gO,j,none⟩) fM).trans (dX.out j hj)
    have gN:gO<Y.heap.size:=Nat.lt_of_lt_of_le fM b6.size
    have z5:Y.cell? ⟨h0,5,none⟩=some (.slice aE T.L.es.length cE):=(bZ.out.cell (p:=⟨h0,5,none⟩) (block_lt_of_cell d5)).trans d5
    have cQ:Hid _:=zIJ B T.L.es.length cE aE T.L.es Y rfl (zD dN (fun q hq=>bZ.out.block q (zG dN q hq))) (fun i=>Nat.le_trans (zQ _ _) (by have:=dK.2;omega)) (by have:=dK.1;omega)
    rw[cP]at cQ
    rw[hY]
    clear hY z0 z1 z2 z7 cU f4 dX a1 b6
    go_wp2_with fail
    refine Calls.mono cQ.out ?_
    rintro e F ⟨rfl,rfl⟩
    go_wp2_with fail
    clear z5 cQ
    have aH:Hid (∀X:World,Below F.heap.size F X→Below w.heap.size w X):=fun X hX=>bZ.out.trans (hX.mono bZ.out.size)
    obtain⟨Y,hY⟩:∃Y,F=Y:=⟨_,rfl⟩
    subst hY
    go_loopw [17,18] (fun iv _ wr=>∃i:Nat,i≤n∧iv=.int .i64 i∧(∀j,j<i→okJ kt K C lv o s len S h A j)∧Below F.heap.size F wr) (fun iv _ _=>n-(intOf iv).toNat)
    case atStart=>exact⟨0,Nat.zero_le _,rfl,fun j hj=>by omega,Below.refl _ _⟩
    case round=>
     obtain⟨i,hi,rfl,hE,f9⟩:=hrel
     have HE:Hid (∀j,j<i→okJ kt K C lv o s len S h A j):=hE
     have a7:Hid (Below F.heap.size F wr):=f9
     clear hE f9
     by_cases Z:i<n
     ·have bS:(i:Int)<(n:Int):=by omega
      obtain⟨R,cI⟩:∃x,A i=x:=⟨_,rfl⟩
      obtain⟨si,aZ⟩:∃x,S i=x:=⟨_,rfl⟩
      obtain⟨hb,aY⟩:∃x,h i=x:=⟨_,rfl⟩
      obtain⟨oi,dO⟩:∃x,o+i=x:=⟨_,rfl⟩
      obtain⟨lf,dL⟩:∃x,pc lv 32 (o+i)=x:=⟨_,rfl⟩
      obtain⟨z,hz⟩:∃z:ByteArray,⟨#[0]⟩++R=z:=⟨_,rfl⟩
      obtain⟨d,hd⟩:∃x,ofT kt z=x:=⟨_,rfl⟩
      have i1:R.size=C:=by rw[←cI];exact cR.out i
      have aO:Hid (okJ kt K C lv o s len S h A i↔d=lf∧(hb=true→R=si)∧(i<K→∀k,k<C→len≤fr+i*C+k→R.data.toList.getD k 0=0)):=by
       show _↔_
       unfold okJ
       rw[zFh,cI,hz,hd,dL,aY,aZ,gD.out]
      have cB:Hid (∀X:World,Calls Tryz.prog 122 #[.string R] X fun e w'=>e=.returned (.string z)∧w'=X):=fun X=>by rw[←hz];exact zCT R X (by omega)
      have c9:Hid (∀X:World,Below F.heap.size F X→Calls Tryz.prog 77 #[.string z] X fun e w'=>e=.returned (.string d)∧Below X.heap.size X w'):=fun X hX=>by
       rw[←hd]
       exact zb kt z X (by rw[←hz,ByteArray.size_append];show 1+R.size≤_;omega) (hG.below (aH.out X hX))
      have HC:Hid (∀Q:World,Below F.heap.size F Q→Q.cell? ⟨gO,i,none⟩=some (.string R)∧Q.cell? ⟨b1,i,none⟩=some (.string si)∧Q.cell? ⟨b2,i,none⟩=some (.bool hb)∧Q.cell? ⟨h0,7,none⟩=some (.slice (some ⟨gL,0,none⟩) cnt cL)∧Q.cell? ⟨gL,oi,none⟩=some (.string lf)):=fun X hX=>by
       have q1:=gB.out i Z
       rw[cI]at q1
       have q2:F.cell? ⟨b1,i,none⟩=some (.string si):=by have:=cD.out.r1.cell i Z;rw[this];simp[zL,Z,tI,aZ]
       have q3:F.cell? ⟨b2,i,none⟩=some (.bool hb):=by have:=cD.out.r2.cell i Z;rw[this];simp[zL,Z,bI,aY]
       have q5:=gH.out X i (aH.out X hX) Z
       rw[dL,dO]at q5
       exact⟨(hX.cell (p:=⟨gO,i,none⟩) gN).trans q1,(hX.cell (p:=⟨b1,i,none⟩) cD.out.r1.lt).trans q2,(hX.cell (p:=⟨b2,i,none⟩) cD.out.r2.lt).trans q3,(HV.out X (aH.out X hX)).2.2.2.2.2,q5⟩
      have i3:(oi:Int)<(cnt:Int):=by omega
      have i4:(0:Int)≤(oi:Int):=by omega
      have u1:IntKind.i64.wrap (o:Int)=(o:Int):=by rw[IntKind.wrap_i64];omega
      have u2:IntKind.i64.wrap ((o:Int)+(i:Int))=(oi:Int):=by rw[IntKind.wrap_i64];omega
      have i8:Hid (o+i=oi):=dO
      clear dO
      obtain⟨v0,v1,v2,v3,v4⟩:=HC.out wr a7.out
      clear cI aZ aY dL hz hd
      by_cases aM:d=lf
      ·have q1:(d.toList == lf.toList)=true:=zS aM
       cases hb with
       |true=>
        by_cases b9:R=si
        ·have q2:(R.toList == si.toList)=true:=zS b9
         have cV:Hid (true=true→R=si):=fun _=>b9
         have cS:Hid (d=lf):=aM
         clear b9 aM
         go_wp2_with fail
         refine wp_region_held_drew (S:=fun Q=>Q.cell? ⟨gO,i,none⟩=some (.string R)∧Q.cell? ⟨b1,i,none⟩=some (.string si)∧Q.cell? ⟨b2,i,none⟩=some (.bool true)∧Q.cell? ⟨h0,7,none⟩=some (.slice (some ⟨gL,0,none⟩) cnt cL)∧Q.cell? ⟨gL,oi,none⟩=some (.string lf)) (by kernel_rfl) (by exact⟨v0,v1,v2,v3,v4⟩) (fun W=> ?_)
         refine tkL 0 105 ?_
         try go_frame
         refine tkL 1 106 ?_
         try go_frame
         refine tkL 2 107 ?_
         try go_frame
         refine tkL 3 108 ?_
         try go_frame
         refine tkL 6 111 ?_
         try go_frame
         refine tkL 7 112 ?_
         try go_frame
         refine tkL 8 113 ?_
         try go_frame
         refine tkL 9 114 ?_
         try go_frame
         refine tkL 10 115 ?_
         try go_frame
         refine tkL 11 116 ?_
         try go_frame
         refine tkL 12 117 ?_
         try go_frame
         refine tkL 13 118 ?_
         try go_frame
         refine tkL 14 119 ?_
         try go_frame
         refine tkL 15 120 ?_
         try go_frame
         refine tkL 16 121 ?_
         try go_frame
         refine wpAnyH_ready (rs:=[4]) (by kernel_rfl) (by simp) ?_
         refine AllReadyH.cons (o:=Oper.mk (some 109) _ _ _ _ _) rfl (fun Ka aC=> ?_) AllReadyH.nil
         go_simp
         refine Calls.mono (cB.out _) ?_
         rintro e w7 ⟨rfl,aG⟩
         have D:Below F.heap.size F w7:=(by rw[aG];first|exact a7.out.drew|exact a7.out)
         clear aG
         go_wp2_with fail
         refine aC.out _ _ (HC.out w7 D) (fun J=> ?_)
         clear W aC
         try go_frame
         refine wpAnyH_ready (rs:=[5]) (by kernel_rfl) (by simp) ?_
         refine AllReadyH.cons (o:=Oper.mk (some 110) _ _ _ _ _) rfl (fun Kb aD=> ?_) AllReadyH.nil
         go_simp
         refine Calls.mono (c9.out _ D) ?_
         rintro e U ⟨rfl,G⟩
         have u:Below F.heap.size F U:=D.trans (G.mono D.size)
         go_wp2_with fail
         refine aD.out _ _ (HC.out U u) (fun N=> ?_)
         clear J aD
         try go_frame
         refine tkL 17 122 ?_
         try go_frame
         refine tkL 18 123 ?_
         try go_frame
         refine tkL 19 124 ?_
         try go_frame
         refine tkL 20 125 ?_
         try go_frame
         refine tkL 21 126 ?_
         try go_frame
         refine tkL 22 127 ?_
         try go_frame
         refine tkL 23 128 ?_
         try go_frame
         refine tkL 24 129 ?_
         try go_frame
         refine tkL 25 130 ?_
         try go_frame
         refine tkL 26 131 ?_
         try go_frame
         refine tkL 27 132 ?_
         try go_frame
         refine tkL 28 133 ?_
         try go_frame
         refine tkL 29 134 ?_
         try go_frame
         refine tkL 30 135 ?_
         try go_frame
         refine tkL 31 136 ?_
         try go_frame
         refine tkL 32 137 ?_
         try go_frame
         refine tkL 33 138 ?_
         try go_frame
         refine tkL 34 139 ?_
         try go_frame
         refine wpAnyH_done (by kernel_rfl) ?_ _
         have a1:Hid (Below F.heap.size F U):=u
         clear D G u N v0 v1 v2 v3 v4
         have a8:Hid ((i<K→∀k,k<C→len≤fr+i*C+k→R.data.toList.getD k 0=0)→∀j,j<i+1→okJ kt K C lv o s len S h A j):=fun hz j hj=>by
          by_cases e:j=i
          ·rw[e];exact aO.out.2 ⟨cS.out,cV.out,hz⟩
          ·exact HE.out j (by omega)
         obtain⟨ic,aF⟩:∃x,i*C=x:=⟨_,rfl⟩
         have fN:ic≤20000:=by rw[←aF];exact Nat.le_trans (Nat.mul_le_mul (show i≤255 by omega) b0) (by decide)
         have e4:(i:Int)*(C:Int)=(ic:Int):=by rw[←aF];simp
         have gG:Hid (i*C=ic):=aF
         rw[aF]at a8 aO
         clear aF
         go_wp2_with fail
         go_loopw [18] (fun kv wr=>∃k:Nat,k≤C∧kv=.int .i64 k∧(i<K→∀k',k'<k→len≤fr+ic+k'→R.data.toList.getD k' 0=0)∧Below F.heap.size F wr) (fun kv _=>C-(intOf kv).toNat)
         case atStart=>exact⟨0,Nat.zero_le _,rfl,fun _ k' hk=>by omega,a1.out⟩
         case round=>
          obtain⟨k,hk,rfl,hZ,aK⟩:=hrel
          have HZ:Hid (i<K→∀k',k'<k→len≤fr+ic+k'→R.data.toList.getD k' 0=0):=hZ
          have a6:Hid (Below F.heap.size F wr):=aK
          obtain⟨p0,_,_,_,_⟩:=HC.out wr aK
          obtain⟨_,_,z0,_,z2,_⟩:=HV.out wr (aH.out wr aK)
          clear hZ aK
          by_cases dI:k<C
          ·have bQ:(k:Int)<(C:Int):=by omega
           by_cases bM:i<K
           ·have bO:(i:Int)<(K:Int):=by omega
            have dH:k<R.size:=by omega
            obtain⟨bt,bL⟩:∃b:Nat,R[k].toNat=b:=⟨_,rfl⟩
            have bK:bt<256:=by rw[←bL];exact R[k].toNat_lt
            have bC:Hid (R.data.toList.getD k 0=0↔bt=0):=by
             show _↔_
             rw[←zDB dH,←bL]
             exact⟨fun e=>by rw[e];rfl,fun e=>UInt8.toNat_inj.1 e⟩
            by_cases aQ:len≤fr+ic+k
            ·have g1:(len:Int)≤(fr:Int)+(ic:Int)+(k:Int):=by omega
             by_cases hz:bt=0
             ·have aU:Hid (i<K→∀k',k'<k+1→len≤fr+ic+k'→R.data.toList.getD k' 0=0):=fun hK k' bP hp=>by
               by_cases e:k'=k
               ·rw[e];exact bC.out.2 hz
               ·exact HZ.out hK k' (by omega) hp
              have g2:((bt:Int) == 0)=true:=by simp;omega
              subst hz
              go_wp2_with fail
              go_roundw
              case rel=>exact⟨k+1,by omega,by go_num,aU.out,a6.out⟩
              case measure=>simp[intOf];omega
             ·have g2:((bt:Int) == 0)=false:=by simp;omega
              have g3:¬(bt:Int)=0:=by omega
              have a9:Hid (stF kt T bl s=2):=cC.out i Z (fun aN=>hz (bC.out.1 ((aO.out.1 aN).2.2 bM k dI aQ)))
              go_wp2_with fail
              go_ret2
              exact⟨_,by rw[a9.out];rfl,aH.out _ a6.out,.inr ⟨by rw[a9.out];decide,rfl⟩⟩
            ·have g1:¬(len:Int)≤(fr:Int)+(ic:Int)+(k:Int):=by omega
             have aU:Hid (i<K→∀k',k'<k+1→len≤fr+ic+k'→R.data.toList.getD k' 0=0):=fun hK k' bP hp=>by
              by_cases e:k'=k
              ·rw[e]at hp;exact absurd hp aQ
              ·exact HZ.out hK k' (by omega) hp
             go_wp2_with fail
             go_roundw
             case rel=>exact⟨k+1,by omega,by go_num,aU.out,a6.out⟩
             case measure=>simp[intOf];omega
           ·have bO:¬(i:Int)<(K:Int):=by omega
            have aT:Hid (∀j,j<i+1→okJ kt K C lv o s len S h A j):=a8.out (fun hK=>absurd hK bM)
            go_wp2_with fail
            go_roundw
            case rel=>exact⟨i+1,by omega,by go_num,aT.out,a6.out⟩
            case measure=>simp[intOf];omega
          ·have bQ:¬(k:Int)<(C:Int):=by omega
           have aT:Hid (∀j,j<i+1→okJ kt K C lv o s len S h A j):=a8.out (fun hK k' bP hp=>HZ.out hK k' (by omega) hp)
           go_wp2_with fail
           go_roundw
           case rel=>exact⟨i+1,by omega,by go_num,aT.out,a6.out⟩
           case measure=>simp[intOf];omega
        ·have q2:(R.toList == si.toList)=false:=zW b9
         have a9:Hid (stF kt T bl s=2):=cC.out i Z (fun aN=>b9 ((aO.out.1 aN).2.1 rfl))
         clear b9 aM
         go_wp2_with fail
         refine wp_region_held_drew (S:=fun Q=>Q.cell? ⟨gO,i,none⟩=some (.string R)∧Q.cell? ⟨b1,i,none⟩=some (.string si)∧Q.cell? ⟨b2,i,none⟩=some (.bool true)∧Q.cell? ⟨h0,7,none⟩=some (.slice (some ⟨gL,0,none⟩) cnt cL)∧Q.cell? ⟨gL,oi,none⟩=some (.string lf)) (by kernel_rfl) (by exact⟨v0,v1,v2,v3,v4⟩) (fun W=> ?_)
         refine tkL 0 105 ?_
         try go_frame
         refine tkL 1 106 ?_
         try go_frame
         refine tkL 2 107 ?_
         try go_frame
         refine tkL 3 108 ?_
         try go_frame
         refine tkL 6 111 ?_
         try go_frame
         refine tkL 7 112 ?_
         try go_frame
         refine tkL 8 113 ?_
         try go_frame
         refine tkL 9 114 ?_
         try go_frame
         refine tkL 10 115 ?_
         try go_frame
         refine tkL 11 116 ?_
         try go_frame
         refine tkL 12 117 ?_
         try go_frame
         refine tkL 13 118 ?_
         try go_frame
         refine tkL 14 119 ?_
         try go_frame
         refine tkL 15 120 ?_
         try go_frame
         refine tkL 16 121 ?_
         try go_frame
         refine wpAnyH_ready (rs:=[4]) (by kernel_rfl) (by simp) ?_
         refine AllReadyH.cons (o:=Oper.mk (some 109) _ _ _ _ _) rfl (fun Ka aC=> ?_) AllReadyH.nil
         go_simp
         refine Calls.mono (cB.out _) ?_
         rintro e w7 ⟨rfl,aG⟩
         have D:Below F.heap.size F w7:=(by rw[aG];first|exact a7.out.drew|exact a7.out)
         clear aG
         go_wp2_with fail
         refine aC.out _ _ (HC.out w7 D) (fun J=> ?_)
         clear W aC
         try go_frame
         refine wpAnyH_ready (rs:=[5]) (by kernel_rfl) (by simp) ?_
         refine AllReadyH.cons (o:=Oper.mk (some 110) _ _ _ _ _) rfl (fun Kb aD=> ?_) AllReadyH.nil
         go_simp
         refine Calls.mono (c9.out _ D) ?_
         rintro e U ⟨rfl,G⟩
         have u:Below F.heap.size F U:=D.trans (G.mono D.size)
         go_wp2_with fail
         refine aD.out _ _ (HC.out U u) (fun N=> ?_)
         clear J aD
         try go_frame
         refine tkL 17 122 ?_
         try go_frame
         refine tkL 18 123 ?_
         try go_frame
         refine tkL 19 124 ?_
         try go_frame
         refine tkL 20 125 ?_
         try go_frame
         refine tkL 21 126 ?_
         try go_frame
         refine tkL 22 127 ?_
         try go_frame
         refine tkL 23 128 ?_
         try go_frame
         refine tkL 24 129 ?_
         try go_frame
         refine tkL 25 130 ?_
         try go_frame
         refine tkL 26 131 ?_
         try go_frame
         refine tkL 27 132 ?_
         try go_frame
         refine tkL 28 133 ?_
         try go_frame
         refine tkL 29 134 ?_
         try go_frame
         refine tkL 30 135 ?_
         try go_frame
         refine tkL 31 136 ?_
         try go_frame
         refine tkL 32 137 ?_
         try go_frame
         refine tkL 33 138 ?_
         try go_frame
         refine tkL 34 139 ?_
         try go_frame
         refine wpAnyH_done (by kernel_rfl) ?_ _
         have a1:Hid (Below F.heap.size F U):=u
         clear D G u N v0 v1 v2 v3 v4
         go_wp2_with fail
         go_ret2
         exact⟨_,by rw[a9.out];rfl,aH.out _ a1.out,.inr ⟨by rw[a9.out];decide,rfl⟩⟩
       |false=>
        have cV:Hid (false=true→R=si):=fun e=>(by cases e)
        have cS:Hid (d=lf):=aM
        clear aM
        go_wp2_with fail
        refine wp_region_held_drew (S:=fun Q=>Q.cell? ⟨gO,i,none⟩=some (.string R)∧Q.cell? ⟨b1,i,none⟩=some (.string si)∧Q.cell? ⟨b2,i,none⟩=some (.bool false)∧Q.cell? ⟨h0,7,none⟩=some (.slice (some ⟨gL,0,none⟩) cnt cL)∧Q.cell? ⟨gL,oi,none⟩=some (.string lf)) (by kernel_rfl) (by exact⟨v0,v1,v2,v3,v4⟩) (fun W=> ?_)
        refine tkL 0 105 ?_
        try go_frame
        refine tkL 1 106 ?_
        try go_frame
        refine tkL 2 107 ?_
        try go_frame
        refine tkL 3 108 ?_
        try go_frame
        refine tkL 6 111 ?_
        try go_frame
        refine tkL 7 112 ?_
        try go_frame
        refine tkL 8 113 ?_
        try go_frame
        refine tkL 9 114 ?_
        try go_frame
        refine tkL 10 115 ?_
        try go_frame
        refine tkL 11 116 ?_
        try go_frame
        refine tkL 12 117 ?_
        try go_frame
        refine tkL 13 118 ?_
        try go_frame
        refine tkL 14 119 ?_
        try go_frame
        refine tkL 15 120 ?_
        try go_frame
        refine tkL 16 121 ?_
        try go_frame
        refine wpAnyH_ready (rs:=[4]) (by kernel_rfl) (by simp) ?_
        refine AllReadyH.cons (o:=Oper.mk (some 109) _ _ _ _ _) rfl (fun Ka aC=> ?_) AllReadyH.nil
        go_simp
        refine Calls.mono (cB.out _) ?_
        rintro e w7 ⟨rfl,aG⟩
        have D:Below F.heap.size F w7:=(by rw[aG];first|exact a7.out.drew|exact a7.out)
        clear aG
        go_wp2_with fail
        refine aC.out _ _ (HC.out w7 D) (fun J=> ?_)
        clear W aC
        try go_frame
        refine wpAnyH_ready (rs:=[5]) (by kernel_rfl) (by simp) ?_
        refine AllReadyH.cons (o:=Oper.mk (some 110) _ _ _ _ _) rfl (fun Kb aD=> ?_) AllReadyH.nil
        go_simp
        refine Calls.mono (c9.out _ D) ?_
        rintro e U ⟨rfl,G⟩
        have u:Below F.heap.size F U:=D.trans (G.mono D.size)
        go_wp2_with fail
        refine aD.out _ _ (HC.out U u) (fun N=> ?_)
        clear J aD
        try go_frame
        refine tkL 17 122 ?_
        try go_frame
        refine tkL 18 123 ?_
        try go_frame
        refine tkL 19 124 ?_
        try go_frame
        refine tkL 20 125 ?_
        try go_frame
        refine tkL 21 126 ?_
        try go_frame
        refine tkL 22 127 ?_
        try go_frame
        refine tkL 23 128 ?_
        try go_frame
        refine tkR 24 129 ?_
        try go_frame
        refine tkR 25 130 ?_
        try go_frame
        refine tkR 26 131 ?_
        try go_frame
        refine tkR 27 132 ?_
        try go_frame
        refine tkR 28 133 ?_
        try go_frame
        refine tkR 29 134 ?_
        try go_frame
        refine tkR 30 135 ?_
        try go_frame
        refine tkR 31 136 ?_
        try go_frame
        refine tkR 32 137 ?_
        try go_frame
        refine tkL 33 138 ?_
        try go_frame
        refine tkL 34 139 ?_
        try go_frame
        refine wpAnyH_done (by kernel_rfl) ?_ _
        have a1:Hid (Below F.heap.size F U):=u
        clear D G u N v0 v1 v2 v3 v4
        have a8:Hid ((i<K→∀k,k<C→len≤fr+i*C+k→R.data.toList.getD k 0=0)→∀j,j<i+1→okJ kt K C lv o s len S h A j):=fun hz j hj=>by
         by_cases e:j=i
         ·rw[e];exact aO.out.2 ⟨cS.out,cV.out,hz⟩
         ·exact HE.out j (by omega)
        obtain⟨ic,aF⟩:∃x,i*C=x:=⟨_,rfl⟩
        have fN:ic≤20000:=by rw[←aF];exact Nat.le_trans (Nat.mul_le_mul (show i≤255 by omega) b0) (by decide)
        have e4:(i:Int)*(C:Int)=(ic:Int):=by rw[←aF];simp
        have gG:Hid (i*C=ic):=aF
        rw[aF]at a8 aO
        clear aF
        go_wp2_with fail
        go_loopw [18] (fun kv wr=>∃k:Nat,k≤C∧kv=.int .i64 k∧(i<K→∀k',k'<k→len≤fr+ic+k'→R.data.toList.getD k' 0=0)∧Below F.heap.size F wr) (fun kv _=>C-(intOf kv).toNat)
        case atStart=>exact⟨0,Nat.zero_le _,rfl,fun _ k' hk=>by omega,a1.out⟩
        case round=>
         obtain⟨k,hk,rfl,hZ,aK⟩:=hrel
         have HZ:Hid (i<K→∀k',k'<k→len≤fr+ic+k'→R.data.toList.getD k' 0=0):=hZ
         have a6:Hid (Below F.heap.size F wr):=aK
         obtain⟨p0,_,_,_,_⟩:=HC.out wr aK
         obtain⟨_,_,z0,_,z2,_⟩:=HV.out wr (aH.out wr aK)
         clear hZ aK
         by_cases dI:k<C
         ·have bQ:(k:Int)<(C:Int):=by omega
          by_cases bM:i<K
          ·have bO:(i:Int)<(K:Int):=by omega
           have dH:k<R.size:=by omega
           obtain⟨bt,bL⟩:∃b:Nat,R[k].toNat=b:=⟨_,rfl⟩
           have bK:bt<256:=by rw[←bL];exact R[k].toNat_lt
           have bC:Hid (R.data.toList.getD k 0=0↔bt=0):=by
            show _↔_
            rw[←zDB dH,←bL]
            exact⟨fun e=>by rw[e];rfl,fun e=>UInt8.toNat_inj.1 e⟩
           by_cases aQ:len≤fr+ic+k
           ·have g1:(len:Int)≤(fr:Int)+(ic:Int)+(k:Int):=by omega
            by_cases hz:bt=0
            ·have aU:Hid (i<K→∀k',k'<k+1→len≤fr+ic+k'→R.data.toList.getD k' 0=0):=fun hK k' bP hp=>by
              by_cases e:k'=k
              ·rw[e];exact bC.out.2 hz
              ·exact HZ.out hK k' (by omega) hp
             have g2:((bt:Int) == 0)=true:=by simp;omega
             subst hz
             go_wp2_with fail
             go_roundw
             case rel=>exact⟨k+1,by omega,by go_num,aU.out,a6.out⟩
             case measure=>simp[intOf];omega
            ·have g2:((bt:Int) == 0)=false:=by simp;omega
             have g3:¬(bt:Int)=0:=by omega
             have a9:Hid (stF kt T bl s=2):=cC.out i Z (fun aN=>hz (bC.out.1 ((aO.out.1 aN).2.2 bM k dI aQ)))
             go_wp2_with fail
             go_ret2
             exact⟨_,by rw[a9.out];rfl,aH.out _ a6.out,.inr ⟨by rw[a9.out];decide,rfl⟩⟩
           ·have g1:¬(len:Int)≤(fr:Int)+(ic:Int)+(k:Int):=by omega
            have aU:Hid (i<K→∀k',k'<k+1→len≤fr+ic+k'→R.data.toList.getD k' 0=0):=fun hK k' bP hp=>by
             by_cases e:k'=k
             ·rw[e]at hp;exact absurd hp aQ
             ·exact HZ.out hK k' (by omega) hp
            go_wp2_with fail
            go_roundw
            case rel=>exact⟨k+1,by omega,by go_num,aU.out,a6.out⟩
            case measure=>simp[intOf];omega
          ·have bO:¬(i:Int)<(K:Int):=by omega
           have aT:Hid (∀j,j<i+1→okJ kt K C lv o s len S h A j):=a8.out (fun hK=>absurd hK bM)
           go_wp2_with fail
           go_roundw
           case rel=>exact⟨i+1,by omega,by go_num,aT.out,a6.out⟩
           case measure=>simp[intOf];omega
         ·have bQ:¬(k:Int)<(C:Int):=by omega
          have aT:Hid (∀j,j<i+1→okJ kt K C lv o s len S h A j):=a8.out (fun hK k' bP hp=>HZ.out hK k' (by omega) hp)
          go_wp2_with fail
          go_roundw
          case rel=>exact⟨i+1,by omega,by go_num,aT.out,a6.out⟩
          case measure=>simp[intOf];omega
      ·have q1:(d.toList == lf.toList)=false:=zW aM
       have a9:Hid (stF kt T bl s=2):=cC.out i Z (fun aN=>aM (aO.out.1 aN).1)
       clear aM
       go_wp2_with fail
       refine wp_region_held_drew (S:=fun Q=>Q.cell? ⟨gO,i,none⟩=some (.string R)∧Q.cell? ⟨b1,i,none⟩=some (.string si)∧Q.cell? ⟨b2,i,none⟩=some (.bool hb)∧Q.cell? ⟨h0,7,none⟩=some (.slice (some ⟨gL,0,none⟩) cnt cL)∧Q.cell? ⟨gL,oi,none⟩=some (.string lf)) (by kernel_rfl) (by exact⟨v0,v1,v2,v3,v4⟩) (fun W=> ?_)
       refine tkL 0 105 ?_
       try go_frame
       refine tkL 1 106 ?_
       try go_frame
       refine tkL 2 107 ?_
       try go_frame
       refine tkL 3 108 ?_
       try go_frame
       refine tkL 6 111 ?_
       try go_frame
       refine tkL 7 112 ?_
       try go_frame
       refine tkL 8 113 ?_
       try go_frame
       refine tkL 9 114 ?_
       try go_frame
       refine tkL 10 115 ?_
       try go_frame
       refine tkL 11 116 ?_
       try go_frame
       refine tkL 12 117 ?_
       try go_frame
       refine tkL 13 118 ?_
       try go_frame
       refine tkL 14 119 ?_
       try go_frame
       refine tkL 15 120 ?_
       try go_frame
       refine tkL 16 121 ?_
       try go_frame
       refine wpAnyH_ready (rs:=[4]) (by kernel_rfl) (by simp) ?_
       refine AllReadyH.cons (o:=Oper.mk (some 109) _ _ _ _ _) rfl (fun Ka aC=> ?_) AllReadyH.nil
       go_simp
       refine Calls.mono (cB.out _) ?_
       rintro e w7 ⟨rfl,aG⟩
       have D:Below F.heap.size F w7:=(by rw[aG];first|exact a7.out.drew|exact a7.out)
       clear aG
       go_wp2_with fail
       refine aC.out _ _ (HC.out w7 D) (fun J=> ?_)
       clear W aC
       try go_frame
       refine wpAnyH_ready (rs:=[5]) (by kernel_rfl) (by simp) ?_
       refine AllReadyH.cons (o:=Oper.mk (some 110) _ _ _ _ _) rfl (fun Kb aD=> ?_) AllReadyH.nil
       go_simp
       refine Calls.mono (c9.out _ D) ?_
       rintro e U ⟨rfl,G⟩
       have u:Below F.heap.size F U:=D.trans (G.mono D.size)
       go_wp2_with fail
       refine aD.out _ _ (HC.out U u) (fun N=> ?_)
       clear J aD
       try go_frame
       refine tkL 17 122 ?_
       try go_frame
       refine tkL 18 123 ?_
       try go_frame
       refine tkR 19 124 ?_
       try go_frame
       refine tkR 20 125 ?_
       try go_frame
       refine tkR 21 126 ?_
       try go_frame
       refine tkR 22 127 ?_
       try go_frame
       refine tkR 23 128 ?_
       try go_frame
       refine tkR 24 129 ?_
       try go_frame
       refine tkR 25 130 ?_
       try go_frame
       refine tkR 26 131 ?_
       try go_frame
       refine tkR 27 132 ?_
       try go_frame
       refine tkR 28 133 ?_
       try go_frame
       refine tkR 29 134 ?_
       try go_frame
       refine tkR 30 135 ?_
       try go_frame
       refine tkR 31 136 ?_
       try go_frame
       refine tkR 32 137 ?_
       try go_frame
       refine tkR 33 138 ?_
       try go_frame
       refine tkL 34 139 ?_
       try go_frame
       refine wpAnyH_done (by kernel_rfl) ?_ _
       have a1:Hid (Below F.heap.size F U):=u
       clear D G u N v0 v1 v2 v3 v4
       go_wp2_with fail
       go_ret2
       exact⟨_,by rw[a9.out];rfl,aH.out _ a1.out,.inr ⟨by rw[a9.out];decide,rfl⟩⟩
     ·obtain rfl:n=i:=by omega
      have bS:¬(n:Int)<(n:Int):=by omega
      have dY:Hid (stF kt T bl s=0):=gI.out HE.out
      go_wp2_with fail
      go_ret2
      have gQ:=zD f3.out (fun q hq=>a7.out.block q (zG f3.out q hq))
      refine⟨_,by rw[dY.out];rfl,aH.out _ a7.out,.inl ⟨dY.out,?_⟩⟩
      rw[d9,zKC f7.out]
      exact gQ
end Go.Proofs.YtlopecgkiikdhaaGreatDoor
