import Derived.Test.YtlopecgkiikdhaaGreatDoorX12
import Derived.Conc.MuLone
import Derived.Deep.CutRange
namespace Go.Proofs.YtlopecgkiikdhaaGreatDoor
open Go.RowKit
set_option maxRecDepth 100000
set_option maxHeartbeats 2000000
theorem zCL (K M C V n:Nat)(u:Nat→ByteArray)(A:Nat→Nat)(D:∀j,(u j).size≤1000)(J:n≤1000):(zA1 K M C V n u A).size≤2000000:=by
 have F:=zDK (zCh (zEY K M C V n) 5) u A D n
 have G:=zBw (zEY K M C V n) 5
 show (zCj (zCh (zEY K M C V n) 5) u A n).toArray.size≤2000000
 simp only[List.size_toArray]
 omega
theorem zEU (kt:Nat→Int)(K M C V nE aD nB A g:Nat)(aE:Option Addr)(Nm:Nat→ByteArray)(Ln:Nat→Nat)(Bk:Nat→ByteArray)(w:World)(hK:K≤100000)(hM:M≤100000)(hC:C≤100000)(dH:1≤V)(hV:V≤1000)(cV:nE≤1000)
 (hN:∀j,(Nm j).size≤1000) (bV:∀j,Ln j≤100000) (hE:∀j,j<nE→∃b,aE=some ⟨b,0,none⟩∧b<w.heap.size∧w.cell? ⟨b,j*2,none⟩=some (.string (Nm j))∧w.cell? ⟨b,j*2+1,none⟩=some (.int .i64 (Ln j)))
 (d6:1≤nB) (dM:nB≤10000) (d5:nB≤A) (bT:∀i,i<nB→(Bk i).size≤1000) (hg:g<w.heap.size) (bU:Cl w g nB (tI Bk)) (hG:Gd kt w):
 Calls Tryz.prog 126 #[.agg #[.int .i64 K,.int .i64 M,.int .i64 C,.int .i64 V],.slice aE nE aD,.slice (some ⟨g,0,none⟩) nB A] w fun e w'=>∃u,e=.returned (.tuple #[.slice (some ⟨u,0,none⟩) V V,.string (zAX (ofT kt) (zA1 K M C V nE Nm Ln) nB fun i=>za (ofT kt) (Bk i))])∧w.heap.size≤u∧Rw w' u V 9 (tX (zIy (ofT kt) (zAX (ofT kt) (zA1 K M C V nE Nm Ln) nB fun i=>za (ofT kt) (Bk i)) (zA1 K M C V nE Nm Ln) nB (fun i=>za (ofT kt) (Bk i)) Bk V))∧Below w.heap.size w w':=by
 have dL:=run_make_row' (P:=Tryz.prog) 22 9 (.string ⟨#[]⟩) 16 Tryz.underlying22 zAl rfl .i64 .i64 V (by omega) (by omega)
 have b2:Hid _:=zCL K M C V nE Nm Ln hN cV
 have Q:Hid (∀W,Below w.heap.size w W→Calls Tryz.prog 162 #[.agg #[.int .i64 K,.int .i64 M,.int .i64 C,.int .i64 V],.slice aE nE aD] W fun e w'=>e=.returned (.string (zA1 K M C V nE Nm Ln))∧Below W.heap.size W w'):=fun W hW=>
  zCt K M C V nE aD aE Nm Ln W hK hM hC (by omega) (by omega) hN bV (fun j hj=>by
   obtain⟨b,h1,h2,h3,h4⟩:=hE j hj
   exact⟨b,h1,Nat.lt_of_lt_of_le h2 hW.size,(hW.cell (p:=⟨b,j*2,none⟩) h2).trans h3,(hW.cell (p:=⟨b,j*2+1,none⟩) h2).trans h4⟩)
 have bK:Hid (∀W,Below w.heap.size w W→Cl W g nB (tI Bk)):=fun W hW=>Cl.below bU hW hg
 have HG:Hid (∀W,Below w.heap.size w W→Gd kt W):=fun W hW=>hG.below hW
 have aZ:Hid _:=bT
 clear hN bV hE bU hG bT
 obtain⟨l,hl⟩:∃l,zA1 K M C V nE Nm Ln=l:=⟨_,rfl⟩
 rw[hl]at b2 Q ⊢
 clear hl
 obtain⟨Lf,aQ⟩:∃Lf:Nat→ByteArray,(fun i=>za (ofT kt) (Bk i))=Lf:=⟨_,rfl⟩
 have b1:Hid (∀i,(Lf i).size≤32):=fun i=>by rw[←aQ];exact Nat.le_of_eq (zw kt _)
 have cJ:Hid _:=aQ
 rw[aQ]
 clear aQ
 obtain⟨root,G⟩:∃root,zAX (ofT kt) l nB Lf=root:=⟨_,rfl⟩
 have cX:root.size=32:=by rw[←G];exact zw kt _
 have cK:Hid _:=G
 rw[G]
 clear G
 obtain⟨VT,b6⟩:∃VT,zIy (ofT kt) root l nB Lf Bk V=VT:=⟨_,rfl⟩
 have cM:Hid _:=b6
 rw[b6]
 clear b6
 go_enter Tryz.func126,Tryz.ntmps126
 go_wp2_with fail
 obtain⟨s0,aU⟩:∃s0,s0=w.alloc (Obj.cells #[Value.int IntKind.i64 K,Value.int IntKind.i64 M,Value.int IntKind.i64 C,Value.int IntKind.i64 V] 81):=⟨_,rfl⟩
 have aN:Hid (s0.heap[w.heap.size]? =some (.cells #[.int .i64 K,.int .i64 M,.int .i64 C,.int .i64 V] 81 (0,0))):=by
  show _=_
  rw[aU];exact heap_alloc_new _ _
 have J:Hid (Below w.heap.size w s0):=by show Below _ _ _;rw[aU];exact (Below.refl _ _).alloc (Nat.le_refl _) _
 rw[←aU]
 clear aU
 obtain⟨x,hx⟩:∃x,x=w.heap.size:=⟨_,rfl⟩
 rw[←hx]at aN ⊢
 have HX:Hid _:=hx
 clear hx
 have bC:x<s0.heap.size:=(Array.getElem?_eq_some_iff.1 aN.out).1
 refine Calls.mono (Q.out s0 J.out) ?_
 rintro e s1 ⟨rfl,a1⟩
 have aK:Hid (Below s0.heap.size s0 s1):=a1
 clear a1 Q
 have aM:Hid (Below w.heap.size w s1):=J.out.trans (aK.out.mono J.out.size)
 go_wp2_with fail
 refine (zBl kt Bk (some ⟨g,0,none⟩) nB A s1 (by omega) (fun i hi=>Nat.le_trans (aZ.out i hi) (by omega)) (HG.out _ aM.out) (fun i hi=>⟨g,rfl,Nat.lt_of_lt_of_le hg aM.out.size,bK.out _ aM.out i hi⟩)).mono ?_
 rintro e s2 ⟨rfl,bW,a2⟩
 have aL:Hid (Below s0.heap.size s0 s2):=aK.out.trans (a2.mono aK.out.size)
 have aA:Hid (Rw s2 s1.heap.size nB 9 (tI Lf)):=by show Rw s2 s1.heap.size nB 9 (tI Lf);rw[←cJ.out];exact bW
 have bP:Hid (Below w.heap.size w s2):=J.out.trans (aL.out.mono J.out.size)
 clear bW a2 aK aM
 have aR:s1.heap.size<s2.heap.size:=aA.out.lt
 obtain⟨gl,bA⟩:∃gl,gl=s1.heap.size:=⟨_,rfl⟩
 rw[←bA]at aA aR ⊢
 have d7:Hid _:=bA
 clear bA
 go_wp2_with fail
 refine (zBa kt l Lf gl nB nB s2 (by have:=b2.out;omega) (by omega) (fun i _=>b1.out i) (HG.out _ bP.out) aR (fun i hi=>aA.out.cell i hi)).mono ?_
 rintro e D ⟨rfl,b7⟩
 rw[cK.out]
 have a8:Hid (Below s0.heap.size s0 D):=aL.out.trans (b7.mono aL.out.size)
 have b3:Hid (Rw D gl nB 9 (tI Lf)):=aA.out.below b7 aR
 have aS:gl<D.heap.size:=b3.out.lt
 clear b7 aL aA bP aR
 have c3:D.cell? ⟨x,3,none⟩=some (.int .i64 V):=cell_of_row _ _ _ _ 81 _ (by rw[a8.out.block x bC];exact aN.out)
 go_wp2
 obtain⟨s4,aV⟩:∃s4,s4=D.alloc (Obj.cells (madeCells #[Value.string { data:= #[] }] V) 9):=⟨_,rfl⟩
 have bO:Hid (Rw s4 D.heap.size V 9 (fun _=>.string ⟨#[]⟩)):=by show Rw _ _ _ _ _;rw[aV];exact Rw.made D V 9 _
 have aG:Below D.heap.size D s4:=by rw[aV];exact (Below.refl _ _).alloc (Nat.le_refl _) _
 rw[←aV]
 clear aV c3
 have d8:Hid (Rw s4 gl nB 9 (tI Lf)):=b3.out.below aG aS
 have cG:Hid (Below D.heap.size D s4):=aG
 clear aG
 obtain⟨u,aH⟩:∃u,u=D.heap.size:=⟨_,rfl⟩
 rw[←aH]at bO aS ⊢
 have U:Hid _:=aH
 have d0:x<u:=by rw[aH];exact Nat.lt_of_lt_of_le bC a8.out.size
 have cT:g<u:=by rw[aH];exact Nat.lt_of_lt_of_le hg (Nat.le_trans J.out.size a8.out.size)
 clear aH
 have F:Hid (Below w.heap.size w D):=J.out.trans (a8.out.mono J.out.size)
 go_loopw [27] (fun iv wr=>∃v:Nat,v≤V∧iv=.int .i64 v∧Rw wr u V 9 (zL v (tX VT) (.string ⟨#[]⟩))∧Below u D wr) (fun iv _=>V-(intOf iv).toNat)
 case atStart=>exact⟨0,by omega,rfl,bO.out.to (fun j _=>(zo _ _ j).symm),by rw[U.out];exact cG.out⟩
 case round=>
  obtain⟨v,hv,rfl,bX,bZ⟩:=hrel
  have aB:Hid (Rw wr u V 9 (zL v (tX VT) (.string ⟨#[]⟩))):=bX
  have b0:Hid (Below u D wr):=bZ
  clear bX bZ
  have bQ:Hid (Below w.heap.size w wr):=F.out.trans (b0.out.mono (by rw[U.out];exact F.out.size))
  by_cases aT:v<V
  ·have dK:=b2.out
   have q1:((⟨#[86,79,76,49]⟩:ByteArray)++root).size≤100:=by
    rw[ByteArray.size_append,cX]
    have:(⟨#[86,79,76,49]⟩:ByteArray).size=4:=rfl
    omega
   have q2:((⟨#[86,79,76,49]⟩:ByteArray)++root++l).size≤3000000:=by rw[ByteArray.size_append];omega
   have dO:((v:Nat):Int)%4294967296=((v:Nat):Int):=by omega
   have dP:=zO v
   have q3:((⟨#[86,79,76,49]⟩:ByteArray)++root++l++zm v).size≤3000100:=by rw[ByteArray.size_append];omega
   have bB:(jT Lf nB).size≤1000000:=Nat.le_trans (zCI Lf 32 nB (fun i _=>b1.out i)) (by omega)
   have b5:Hid (zA2 root l nB Lf v=(⟨#[86,79,76,49]⟩:ByteArray)++root++l++zm v++jT Lf nB):=rfl
   have q4:(zA2 root l nB Lf v).size≤5000000:=by rw[b5.out,ByteArray.size_append];omega
   go_wp2_with fail
   refine (zAZ v wr (by omega)).mono ?_
   rintro e w1 ⟨rfl,a1⟩
   have a9:Hid (Rw w1 u V 9 (zL v (tX VT) (.string ⟨#[]⟩))):=aB.out.below a1 aB.out.lt
   have a6:Hid (Below u D w1):=b0.out.trans (a1.mono (Nat.le_of_lt aB.out.lt))
   clear a1 aB b0 bQ
   go_wp2_with fail
   refine (zAs Lf gl 0 nB nB 32 w1 (Nat.lt_of_lt_of_le aS (Nat.le_of_lt a9.out.lt)) (Nat.le_refl _) (by omega) (by omega) (fun i _=>b1.out i) (fun i hi=>by rw[Nat.zero_add];exact (a6.out.cell (p:=⟨gl,i,none⟩) aS).trans (b3.out.cell i hi))).mono ?_
   rintro e w2 ⟨rfl,a2⟩
   have aX:Hid (Rw w2 u V 9 (zL v (tX VT) (.string ⟨#[]⟩))):=a9.out.below a2 a9.out.lt
   have a7:Hid (Below u D w2):=a6.out.trans (a2.mono (Nat.le_of_lt a9.out.lt))
   clear a2 a9 a6
   have c3:w2.cell? ⟨x,3,none⟩=some (.int .i64 V):=cell_of_row _ _ _ _ 81 _ (by rw[a7.out.block x d0,a8.out.block x bC];exact aN.out)
   go_wp2_with fail
   rw[←b5.out]
   have cQ:v*nB/V<nB:=Nat.div_lt_of_lt_mul (Nat.mul_lt_mul_of_pos_right aT (by omega))
   have cA:v*nB/V≤(v+1)*nB/V:=Nat.div_le_div_right (Nat.mul_le_mul_right _ (by omega))
   have cR:(v+1)*nB/V≤nB:=Nat.div_le_of_le_mul (Nat.mul_le_mul_right _ (by omega))
   have Z:Hid (VT v=zA2 root l nB Lf v++ofT kt (⟨#[3]⟩++zA2 root l nB Lf v)++jT (fun i=>Bk (v*nB/V+i)) ((v+1)*nB/V-v*nB/V)):=by
    show VT v=_
    rw[←cM.out];rfl
   obtain⟨td,cD⟩:∃td,zA2 root l nB Lf v=td:=⟨_,rfl⟩
   rw[cD]at q4 Z ⊢
   refine (zCX V nB v w2 (by omega) hV (by omega) (by omega)).mono ?_
   rintro e w3 ⟨rfl,q,hq⟩
   obtain⟨f,b9⟩:∃f,v*nB/V=f:=⟨_,rfl⟩
   obtain⟨en,c9⟩:∃en,(v+1)*nB/V=en:=⟨_,rfl⟩
   rw[b9]at cQ cA Z ⊢
   rw[c9]at cA cR Z ⊢
   have N:Hid (Rw w3 u V 9 (zL v (tX VT) (.string ⟨#[]⟩))):=by show Rw _ _ _ _ _;rw[hq];exact aX.out
   have R:Hid (Below u D w3):=by show Below _ _ _;rw[hq];exact below_drewN a7.out q
   clear hq b9 c9 aX a7 c3 cD q1 q2 q3 bB b5
   have d9:Hid (Below w.heap.size w w3):=F.out.trans (R.out.mono (by rw[U.out];exact F.out.size))
   have q5:((⟨#[3]⟩:ByteArray)++td).size≤6000000:=by
    rw[ByteArray.size_append]
    have:(⟨#[3]⟩:ByteArray).size=1:=rfl
    omega
   have bL:Hid (∀W,Below u D W→Calls Tryz.prog 98 #[.string (⟨#[3]⟩++td)] W fun e w'=>e=.returned (.string (ofT kt (⟨#[3]⟩++td)))∧Below W.heap.size W w'):=fun W hW=>by
    have cB:=HG.out W (F.out.trans (hW.mono (by rw[U.out];exact F.out.size)))
    exact zCP kt _ W (by omega) cB.tab cB.one
   have bM:Hid (∀W,u≤W.heap.size→Below u D W→Calls Tryz.prog 165 #[.slice (some ⟨g,f,none⟩) (en-f) (A-f),.string ⟨#[]⟩] W fun e w'=>e=.returned (.string (jT (fun i=>Bk (f+i)) (en-f)))∧Below W.heap.size W w'):=fun W hz hW=>
    zAs (fun i=>Bk (f+i)) g f (en-f) (A-f) 1000 W (Nat.lt_of_lt_of_le cT hz) (by omega) (by omega) (by omega) (fun i hi=>aZ.out _ (by omega)) (fun i hi=>bK.out W (F.out.trans (hW.mono (by rw[U.out];exact F.out.size))) (f+i) (by omega))
   have cP:(ofT kt (⟨#[3]⟩++td)).size≤32:=Nat.le_of_eq (zw kt _)
   have bB:(jT (fun i=>Bk (f+i)) (en-f)).size≤100000000:=Nat.le_trans (zCI _ 1000 _ (fun i hi=>aZ.out _ (by omega))) (Nat.le_trans (Nat.mul_le_mul_right 1000 (show en-f≤10000 by omega)) (by omega))
   obtain⟨dg,c8⟩:∃dg,ofT kt (⟨#[3]⟩++td)=dg:=⟨_,rfl⟩
   obtain⟨aW,cC⟩:∃aW,jT (fun i=>Bk (f+i)) (en-f)=aW:=⟨_,rfl⟩
   rw[c8]at Z bL cP
   rw[cC]at Z bM bB
   have q6:(td++dg).size≤6000000:=by rw[ByteArray.size_append];omega
   clear c8 cC
   have dJ:(f:Int)<(A:Int):=by omega
   have b9:(f:Int)≤(en:Int):=by omega
   have dI:(en:Int)≤(A:Int):=by omega
   have dN:(v:Int)<(V:Int):=by omega
   have cY:=N.out.lt
   have k1:=N.out.cell v aT
   have k2:=N.out.free v
   have cL:Hid (u≤w3.heap.size):=Nat.le_of_lt N.out.lt
   have t1:(⟨#[3]⟩:ByteArray).size=1:=rfl
   have k3:¬(9223372036854775807<(⟨#[3]⟩:ByteArray).size+td.size):=by omega
   have dS:¬(9223372036854775807<1+td.size):=by omega
   have k4:¬(9223372036854775807<td.size+dg.size):=by omega
   have k5:¬(9223372036854775807<(td++dg).size+aW.size):=by omega
   have dT:¬(9223372036854775807<td.size+dg.size+aW.size):=by omega
   go_wp2
   go_region_held3 (fun w'=>w'.frozen? ⟨u,v,none⟩=false) (go_keep) (first|(go_at_call 98;refine Calls.mono (bL.out _ (by first|exact R.out|exact R.out.drew)) ?_;rintro e r1 ⟨rfl,bY⟩;have bS:Below w3.heap.size w3 r1:=(by first|exact bY|exact ((Below.refl _ _).drew).trans bY);have X:Hid (Rw r1 u V 9 (zL v (tX VT) (.string ⟨#[]⟩))):=N.out.below bS cY;have bJ:Hid (Below u D r1):=R.out.trans (bS.mono cL.out);have m1:=X.out.cell v aT;have m2:=X.out.free v)|(go_at_call 165;refine Calls.mono (bM.out r1 (Nat.le_of_lt X.out.lt) bJ.out) ?_;rintro e r2 ⟨rfl,hbj⟩;have b4:Hid (Rw r2 u V 9 (zL v (tX VT) (.string ⟨#[]⟩))):=X.out.below hbj X.out.lt;have cH:Hid (Below u D r2):=bJ.out.trans (hbj.mono (Nat.le_of_lt X.out.lt));have n1:=b4.out.cell v aT;have n2:=b4.out.free v))
   clear n1 n2 m1 m2 k1 k2
   go_wp2
   go_roundw
   case rel=>exact⟨v+1,by omega,by go_num,(b4.out.put v _).to (fun j _=>by rw[←Z.out,←zN];rfl),cH.out.setCell (Nat.le_refl _) _⟩
   case measure=>simp[intOf];omega
  ·have e:v=V:=by omega
   subst e
   go_wp2
   go_ret2
   exact⟨u,rfl,by rw[U.out];exact F.out.size,aB.out.to (fun j hj=>by simp[zL,hj]),bQ.out⟩
end Go.Proofs.YtlopecgkiikdhaaGreatDoor
namespace Go.Proofs.YtlopecgkiikdhaaGreatDoor
open Go.RowKit Go.Maps
set_option maxRecDepth 100000
set_option maxHeartbeats 1000000
theorem zO9 (s:ByteArray)(z i:Nat):(pc s z i).size≤z:=by
 unfold pc
 rw[ByteArray.size_extract,Nat.succ_mul]
 omega
end Go.Proofs.YtlopecgkiikdhaaGreatDoor
namespace Go.Proofs.YtlopecgkiikdhaaGreatDoor
abbrev muN:Go.Conc.Locks.MuLink:={ lock:=55,unlock:=56,ilock:=81,iunlock:=82,lockSlow:=115,unlockSlow:=118,disable:=111,enable:=113,acquire:=114,relMerge:=116,cas32:=112,add32:=117,tMutex:=68,tIMutex:=66,tPMutex:=170,tPIMutex:=205,tPI32:=207,tUP:=193,tNoCopy:=63,tU32:=64 }
theorem muL:Go.Conc.Locks.MuLib Tryz.prog muN:=
 ⟨Tryz.func55,Tryz.func56,Tryz.func81,Tryz.func82,Tryz.func111,Tryz.func113,Tryz.func114,Tryz.func116,Tryz.func112,Tryz.func117,
  Tryz.underlying66,Tryz.runUnderlying66,Tryz.sizeOf66,Tryz.isAgg66,Tryz.zeroValue66,
  Tryz.underlying68,Tryz.runUnderlying68,Tryz.sizeOf68,Tryz.isAgg68,Tryz.zeroValue68,
  Tryz.underlying170,Tryz.runUnderlying170,Tryz.sizeOf170,Tryz.isAgg170,Tryz.zeroValue170,
  Tryz.underlying205,Tryz.runUnderlying205,Tryz.sizeOf205,Tryz.isAgg205,Tryz.zeroValue205,
  Tryz.underlying207,Tryz.runUnderlying207,Tryz.sizeOf207,Tryz.isAgg207,Tryz.zeroValue207,
  Tryz.underlying193,Tryz.runUnderlying193,Tryz.sizeOf193,Tryz.isAgg193,Tryz.zeroValue193,
  Tryz.underlying63,Tryz.runUnderlying63,Tryz.sizeOf63,Tryz.isAgg63,Tryz.zeroValue63,
  Tryz.underlying21,Tryz.runUnderlying21,Tryz.sizeOf21,Tryz.isAgg21,Tryz.zeroValue21,(by kernel_rfl)⟩
end Go.Proofs.YtlopecgkiikdhaaGreatDoor
namespace Go.Proofs.YtlopecgkiikdhaaGreatDoor
open Go.RowKit Go.MuLone
set_option maxRecDepth 100000
set_option maxHeartbeats 1000000
def wC (x:Int)(g:Nat):Array Value:= #[.int .i32 x,.int .u32 0,.pointer (some ⟨g,0,none⟩)]
def Lk (T wb g:Nat)(Q:Value→World→Prop)(v:Value)(w':World):Prop:=w'.heap[wb]? =some (.cells (wC 1 g) T (0,0))∧Q v (w'.setCell ⟨wb,0,none⟩ (.int .i32 0))
theorem zMA (wb g:Nat)(w:World)(Q:Value→World→Prop)(j:w.heap[wb]? =some (.cells (wC 0 g) 70 (0,0)))
 (H:Calls Tryz.prog 58 #[.pointer (some ⟨g,0,none⟩)] (w.setCell ⟨wb,0,none⟩ (.int .i32 1)) fun e w'=>∃v,e=.returned v∧Lk 70 wb g Q v w'):
 Calls Tryz.prog 28 #[.pointer (some ⟨wb,0,none⟩)] w fun e w'=>∃v,e=.returned v∧Q v w':=by
 have J:w.cell? ⟨wb,0,none⟩=some (.int .i32 0):=cell_of_row _ _ _ _ 70 _ j
 have G:w.frozen? ⟨wb,0,none⟩=false:=frozen_of_row _ _ _ _ 70 j
 have F:Hid _:=lock_free muL ⟨wb,0,none⟩ w J G
 obtain⟨W,D⟩:∃W,w.setCell ⟨wb,0,none⟩ (.int .i32 1)=W:=⟨_,rfl⟩
 have A:W.heap[wb]? =some (.cells (wC 1 g) 70 (0,0)):=by rw[←D];have:=zH w wb 0 (.int .i32 1) _ _ _ j;simpa[wC] using this
 have c2:W.cell? ⟨wb,2,none⟩=some (.pointer (some ⟨g,0,none⟩)):=cell_of_row _ _ _ _ 70 _ A
 rw[D]at F H
 have HD:Hid _:=H
 clear D H A
 go_enter_defers Tryz.func28,Tryz.ntmps28
 go_wp2_with fail
 refine Calls.mono F.out ?_
 rintro e X ⟨rfl,rfl⟩
 go_wp2_with fail
 refine Calls.mono HD.out ?_
 rintro e R ⟨v,rfl,u,N⟩
 go_wp2
 refine leaves_cons (f:=56) (args:= #[.pointer (some ⟨wb,0,none⟩)]) (by simp) (by simp[go_sem]) ?_
 refine (unlock_deferred muL ⟨wb,0,none⟩ .returning R (cell_of_row _ _ _ _ 70 _ u) (frozen_of_row _ _ _ _ 70 u)).mono ?_
 rintro e U Z ⟨rfl,rfl,rfl⟩
 exact⟨_,results_tmp rfl _ _ _,v,rfl,N⟩
theorem zGa (wb g:Nat)(w:World)(Q:Value→World→Prop)(j:w.heap[wb]? =some (.cells (wC 0 g) 70 (0,0)))
 (H:Calls Tryz.prog 59 #[.pointer (some ⟨g,0,none⟩)] (w.setCell ⟨wb,0,none⟩ (.int .i32 1)) fun e w'=>∃v,e=.returned v∧Lk 70 wb g Q v w'):
 Calls Tryz.prog 30 #[.pointer (some ⟨wb,0,none⟩)] w fun e w'=>∃v,e=.returned v∧Q v w':=by
 have J:w.cell? ⟨wb,0,none⟩=some (.int .i32 0):=cell_of_row _ _ _ _ 70 _ j
 have G:w.frozen? ⟨wb,0,none⟩=false:=frozen_of_row _ _ _ _ 70 j
 have F:Hid _:=lock_free muL ⟨wb,0,none⟩ w J G
 obtain⟨W,D⟩:∃W,w.setCell ⟨wb,0,none⟩ (.int .i32 1)=W:=⟨_,rfl⟩
 have A:W.heap[wb]? =some (.cells (wC 1 g) 70 (0,0)):=by rw[←D];have:=zH w wb 0 (.int .i32 1) _ _ _ j;simpa[wC] using this
 have c2:W.cell? ⟨wb,2,none⟩=some (.pointer (some ⟨g,0,none⟩)):=cell_of_row _ _ _ _ 70 _ A
 rw[D]at F H
 have HD:Hid _:=H
 clear D H A
 go_enter_defers Tryz.func30,Tryz.ntmps30
 go_wp2_with fail
 refine Calls.mono F.out ?_
 rintro e X ⟨rfl,rfl⟩
 go_wp2_with fail
 refine Calls.mono HD.out ?_
 rintro e R ⟨v,rfl,u,N⟩
 go_wp2
 refine leaves_cons (f:=56) (args:= #[.pointer (some ⟨wb,0,none⟩)]) (by simp) (by simp[go_sem]) ?_
 refine (unlock_deferred muL ⟨wb,0,none⟩ .returning R (cell_of_row _ _ _ _ 70 _ u) (frozen_of_row _ _ _ _ 70 u)).mono ?_
 rintro e U Z ⟨rfl,rfl,rfl⟩
 exact⟨_,results_tmp rfl _ _ _,v,rfl,N⟩
theorem zHq (wb g:Nat)(w:World)(Q:Value→World→Prop)(j:w.heap[wb]? =some (.cells (wC 0 g) 70 (0,0)))
 (H:Calls Tryz.prog 88 #[.pointer (some ⟨g,0,none⟩)] (w.setCell ⟨wb,0,none⟩ (.int .i32 1)) fun e w'=>∃a b,e=.returned (.tuple #[a,b])∧Lk 70 wb g Q (.tuple #[a,b]) w'):
 Calls Tryz.prog 65 #[.pointer (some ⟨wb,0,none⟩)] w fun e w'=>∃a b,e=.returned (.tuple #[a,b])∧Q (.tuple #[a,b]) w':=by
 have J:w.cell? ⟨wb,0,none⟩=some (.int .i32 0):=cell_of_row _ _ _ _ 70 _ j
 have G:w.frozen? ⟨wb,0,none⟩=false:=frozen_of_row _ _ _ _ 70 j
 have F:Hid _:=lock_free muL ⟨wb,0,none⟩ w J G
 obtain⟨W,D⟩:∃W,w.setCell ⟨wb,0,none⟩ (.int .i32 1)=W:=⟨_,rfl⟩
 have A:W.heap[wb]? =some (.cells (wC 1 g) 70 (0,0)):=by rw[←D];have:=zH w wb 0 (.int .i32 1) _ _ _ j;simpa[wC] using this
 have c2:W.cell? ⟨wb,2,none⟩=some (.pointer (some ⟨g,0,none⟩)):=cell_of_row _ _ _ _ 70 _ A
 rw[D]at F H
 have HD:Hid _:=H
 clear D H A
 go_enter_defers Tryz.func65,Tryz.ntmps65
 go_wp2_with fail
 refine Calls.mono F.out ?_
 rintro e X ⟨rfl,rfl⟩
 go_wp2_with fail
 refine Calls.mono HD.out ?_
 rintro e R ⟨a,b,rfl,u,N⟩
 go_wp2
 refine leaves_cons (f:=56) (args:= #[.pointer (some ⟨wb,0,none⟩)]) (by simp) (by simp[go_sem]) ?_
 refine (unlock_deferred muL ⟨wb,0,none⟩ .returning R (cell_of_row _ _ _ _ 70 _ u) (frozen_of_row _ _ _ _ 70 u)).mono ?_
 rintro e U Z ⟨rfl,rfl,rfl⟩
 exact⟨_,results_tmp2 rfl _ _ _,a,b,rfl,N⟩
theorem zD5 (wb g:Nat)(w:World)(Q:Value→World→Prop)(j:w.heap[wb]? =some (.cells (wC 0 g) 70 (0,0)))
 (H:Calls Tryz.prog 90 #[.pointer (some ⟨g,0,none⟩)] (w.setCell ⟨wb,0,none⟩ (.int .i32 1)) fun e w'=>∃a b,e=.returned (.tuple #[a,b])∧Lk 70 wb g Q (.tuple #[a,b]) w'):
 Calls Tryz.prog 70 #[.pointer (some ⟨wb,0,none⟩)] w fun e w'=>∃a b,e=.returned (.tuple #[a,b])∧Q (.tuple #[a,b]) w':=by
 have J:w.cell? ⟨wb,0,none⟩=some (.int .i32 0):=cell_of_row _ _ _ _ 70 _ j
 have G:w.frozen? ⟨wb,0,none⟩=false:=frozen_of_row _ _ _ _ 70 j
 have F:Hid _:=lock_free muL ⟨wb,0,none⟩ w J G
 obtain⟨W,D⟩:∃W,w.setCell ⟨wb,0,none⟩ (.int .i32 1)=W:=⟨_,rfl⟩
 have A:W.heap[wb]? =some (.cells (wC 1 g) 70 (0,0)):=by rw[←D];have:=zH w wb 0 (.int .i32 1) _ _ _ j;simpa[wC] using this
 have c2:W.cell? ⟨wb,2,none⟩=some (.pointer (some ⟨g,0,none⟩)):=cell_of_row _ _ _ _ 70 _ A
 rw[D]at F H
 have HD:Hid _:=H
 clear D H A
 go_enter_defers Tryz.func70,Tryz.ntmps70
 go_wp2_with fail
 refine Calls.mono F.out ?_
 rintro e X ⟨rfl,rfl⟩
 go_wp2_with fail
 refine Calls.mono HD.out ?_
 rintro e R ⟨a,b,rfl,u,N⟩
 go_wp2
 refine leaves_cons (f:=56) (args:= #[.pointer (some ⟨wb,0,none⟩)]) (by simp) (by simp[go_sem]) ?_
 refine (unlock_deferred muL ⟨wb,0,none⟩ .returning R (cell_of_row _ _ _ _ 70 _ u) (frozen_of_row _ _ _ _ 70 u)).mono ?_
 rintro e U Z ⟨rfl,rfl,rfl⟩
 exact⟨_,results_tmp2 rfl _ _ _,a,b,rfl,N⟩
end Go.Proofs.YtlopecgkiikdhaaGreatDoor
namespace Go.Proofs.YtlopecgkiikdhaaGreatDoor
open Go.RowKit
set_option maxRecDepth 100000
set_option maxHeartbeats 1000000
abbrev Ob:=ByteArray×ByteArray
def fC (F:Nat→Ob)(i:Nat):Value:=if i%2=0 then .string (F (i/2)).1 else .string (F (i/2)).2
def zFo (F:Nat→Ob)(n:Nat):List Value:=(List.range (n*2)).map (fC F)
def OwnF (w:World)(B:Nat)(v:Value)(n:Nat)(F:Nat→Ob):Prop:=w.ownsRow B 149 2 v n (zFo F n)
def zIs (F:Nat→Ob)(k:Nat)(o:Ob):Nat→Ob:=fun i=>if i=k then o else F i
theorem zFp (F:Nat→Ob)(n i:Nat)(h:i<n*2):(zFo F n)[i]? =some (fC F i):=by simp[zFo,h]
theorem zHR (F:Nat→Ob)(i:Nat):fC F (i*2)=.string (F i).1:=by
 unfold fC;rw[if_pos (by omega),show i*2/2=i by omega]
theorem zKd (F:Nat→Ob)(i:Nat):fC F (i*2+1)=.string (F i).2:=by
 unfold fC;rw[if_neg (by omega),show (i*2+1)/2=i by omega]
theorem zGg (F G:Nat→Ob)(n:Nat)(h:∀i,i<n→F i=G i):zFo F n=zFo G n:=by
 apply List.map_congr_left
 intro i hi
 have:=List.mem_range.1 hi
 unfold fC
 rw[h (i/2) (by omega)]
theorem zED (F:Nat→Ob)(n:Nat)(o:Ob):zFo (zIs F n o) (n+1)=zFo F n++[.string o.1,.string o.2]:=by
 have e:(n+1)*2=n*2+1+1:=by omega
 have j:zFo (zIs F n o) n=zFo F n:=zGg _ _ _ (fun i hi=>by simp[zIs];omega)
 unfold zFo at j ⊢
 rw[e,List.range_succ,List.range_succ,List.map_append,List.map_append,j]
 simp only[List.map_cons,List.map_nil,zHR,zKd,zIs,if_pos,List.append_assoc,List.singleton_append]
theorem OwnF.at {w:World}{B n:Nat}{v:Value}{F:Nat→Ob}(h:OwnF w B v n F)(D:0<n):∃g j,v=.slice (some ⟨g,0,none⟩) n j∧B≤g∧g<w.heap.size∧n≤j:=by
 rcases h.2 with ⟨_,G⟩|⟨g,j,cur,rfl,hb,A,u,_⟩
 ·omega
 ·exact⟨g,j,rfl,hb,(Array.getElem?_eq_some_iff.1 A).1,u⟩
theorem OwnF.c0 {w:World}{B n g j:Nat}{F:Nat→Ob}(h:OwnF w B (.slice (some ⟨g,0,none⟩) n j) n F)(i:Nat)(hi:i<n):w.cell? ⟨g,i*2,none⟩=some (.string (F i).1):=by
 have:=h.cells (g:=g) rfl (i*2) _ (by rw[zFp F n _ (by omega),zHR])
 rw[Addr.add_lit]at this
 simpa using this
theorem OwnF.c1 {w:World}{B n g j:Nat}{F:Nat→Ob}(h:OwnF w B (.slice (some ⟨g,0,none⟩) n j) n F)(i:Nat)(hi:i<n):w.cell? ⟨g,i*2+1,none⟩=some (.string (F i).2):=by
 have:=h.cells (g:=g) rfl (i*2+1) _ (by rw[zFp F n _ (by omega),zKd])
 rw[Addr.add_lit]at this
 simpa using this
theorem zHc:(Tryz.prog.info? 149).map (fun i=>(i.zero,i.size,i.bytes))=some (some (.agg #[.string ⟨#[]⟩,.string ⟨#[]⟩]),2,32):=by kernel_rfl
end Go.Proofs.YtlopecgkiikdhaaGreatDoor
namespace Go.Proofs.YtlopecgkiikdhaaGreatDoor
open Go.RowKit Go.Maps
set_option maxRecDepth 100000
set_option maxHeartbeats 1000000
theorem zHF {a b:ByteArray}(h:a.data.toList=b.data.toList):a=b:=ByteArray.ext (Array.toList_inj.1 h)
theorem zP {w:World}{B u n:Nat}{e:TypeId}{size:Nat}{v:Value}{D:List Value}(h:w.ownsRow B e size v n D)(hb:u≤B):w.ownsRow u e size v n D:=by
 refine⟨h.1,?_⟩
 rcases h.2 with A|⟨g,j,cur,F,A,G⟩
 ·exact .inl A
 ·exact .inr ⟨g,j,cur,F,by omega,G⟩
end Go.Proofs.YtlopecgkiikdhaaGreatDoor
namespace Go.Proofs.YtlopecgkiikdhaaGreatDoor
open Go.RowKit
set_option maxRecDepth 100000
set_option maxHeartbeats 4000000
def zBE (root lst:ByteArray)(K M C V:Nat)(vE:Value)(lv:ByteArray)(num first:Nat)(vB:Value):Array Value:=
 #[.string root,.string lst,.int .i64 K,.int .i64 M,.int .i64 C,.int .i64 V,vE,.string lv,.int .i64 num,.int .i64 first,vB]
theorem zNg (s:RS):s.list.V≤16:=zAn _ 1 16
theorem zPM (r:Nat)(s:RS)(w:World)(h:RI r s w):Calls Tryz.prog 93 #[.pointer (some ⟨r,0,none⟩)] w fun e w'=>∃g vE,e=.returned (.pointer (some ⟨g,0,none⟩))∧w.heap.size≤g∧w'.heap[g]? =some (.cells (zBE s.told.root s.told.lst s.told.L.K s.told.L.M s.told.L.C s.told.L.V vE s.told.lv s.told.num 0 (.slice none 0 0)) 157 (0,0))∧w'.ownsRow w.heap.size 131 2 vE s.told.L.es.length (enV s.told.L.es)∧RDid r s.told.st w w':=by
 have fX:r<w.heap.size:=(Array.getElem?_eq_some_iff.1 h.row).1
 obtain⟨s0,bK⟩:∃x,s.word ⟨#[86,79,76,49]⟩=x:=⟨_,rfl⟩
 obtain⟨s1,bL⟩:∃x,(s0.bytes 32).1=x:=⟨_,rfl⟩
 obtain⟨root,a7⟩:∃x,(s0.bytes 32).2=x:=⟨_,rfl⟩
 obtain⟨L,hL⟩:∃x,s1.list=x:=⟨_,rfl⟩
 obtain⟨Q,aQ⟩:∃x,(L.st.num 0 ((L.V:Int)-1)).1=x:=⟨_,rfl⟩
 obtain⟨num,aJ⟩:∃x,(L.st.num 0 ((L.V:Int)-1)).2=x:=⟨_,rfl⟩
 have fV:L.es.length≤16:=by rw[←hL];exact zDG s1
 have dB:zM L.es≤4096:=by rw[←hL];exact zDH s1
 obtain⟨lst,aI⟩:∃x,L.st.text.extract s1.next L.st.next=x:=⟨_,rfl⟩
 have H0:Hid (∀X:World,RI r s X→Calls Tryz.prog 129 #[.pointer (some ⟨r,0,none⟩),.string ⟨#[86,79,76,49]⟩] X fun e w'=>e=.returned (.tuple #[])∧RDid r s0 X w'):=fun X hX=>by rw[←bK];exact zN6 r s _ X hX (by decide)
 have H1:Hid (∀X:World,RI r s0 X→Calls Tryz.prog 96 #[.pointer (some ⟨r,0,none⟩),.int .i64 32] X fun e w'=>e=.returned (.string root)∧RDid r s1 X w'):=fun X hX=>by rw[←bL,←a7];exact zCy r s0 32 X hX (by decide)
 have H2:Hid (∀X:World,RI r s1 X→Calls Tryz.prog 130 #[.pointer (some ⟨r,0,none⟩)] X fun e w'=>∃v,e=.returned (.tuple #[.agg #[.int .i64 L.K,.int .i64 L.M,.int .i64 L.C,.int .i64 L.V],v])∧w'.ownsRow X.heap.size 131 2 v L.es.length (enV L.es)∧RDid r L.st X w'):=fun X hX=>by rw[←hL];exact zN3 r s1 X hX
 have H3:Hid (∀X:World,RI r L.st X→Calls Tryz.prog 131 #[.pointer (some ⟨r,0,none⟩),.int .i64 0,.int .i64 ((L.V:Int)-1)] X fun e w'=>e=.returned (.int .i64 num)∧RDid r Q X w'):=fun X hX=>by rw[←aQ,←aJ];exact zKx r L.st 0 _ X hX
 have HV:Hid (L.V≤16):=by show L.V≤16;rw[←hL];exact zNg s1
 have cM:s1.next≤L.st.next:=by rw[←hL];exact (zAC s1).2
 have H4:Hid (∀X:World,RI r L.st X→Calls Tryz.prog 94 #[.pointer (some ⟨r,0,none⟩),.int .i64 s1.next] X fun e w'=>e=.returned (.string lst)∧Below X.heap.size X w'):=fun X hX=>by rw[←aI];exact zIV r L.st s1.next X hX cM
 have aH:Q.wrong=false→1≤L.K∧L.K+L.M≤255∧1≤L.C∧L.C≤64:=fun hw=>by
  have h1:=(ze (show (L.st.num 0 ((L.V:Int)-1)).1.wrong=false by rw[aQ];exact hw)).1
  rw[←hL]at h1 ⊢
  have h2:=zCK h1
  exact⟨h2.2.1,h2.2.2.1,h2.2.2.2.1,h2.2.2.2.2.1⟩
 obtain⟨g,hg⟩:∃g,w.heap.size=g:=⟨_,rfl⟩
 have HG:Hid _:=hg
 obtain⟨W,hW⟩:∃W,w.alloc (.cells (zBE ⟨#[]⟩ ⟨#[]⟩ 0 0 0 0 (.slice none 0 0) ⟨#[]⟩ 0 0 (.slice none 0 0)) 157)=W:=⟨_,rfl⟩
 have bC:w.alloc (.cells #[.string ⟨#[]⟩,.string ⟨#[]⟩,.int .i64 0,.int .i64 0,.int .i64 0,.int .i64 0,.slice none 0 0,.string ⟨#[]⟩,.int .i64 0,.int .i64 0,.slice none 0 0] 157)=W:=hW
 have cN:g≠r:=by omega
 have d8:Hid (RI r s W):=by show RI r s W;rw[←hW];exact h.low ((Below.refl _ _).alloc (Nat.le_refl _) _)
 have d6:Hid (Fr (fun j=>j=r) w W):=by show Fr _ w W;rw[←hW];exact (Fr.refl _ w).alloc _
 have cK:Hid (W.heap[g]? =some (.cells #[.string ⟨#[]⟩,.string ⟨#[]⟩,.int .i64 0,.int .i64 0,.int .i64 0,.int .i64 0,.slice none 0 0,.string ⟨#[]⟩,.int .i64 0,.int .i64 0,.slice none 0 0] 157 (0,0))):=by show _=_;rw[←bC,←hg];exact heap_alloc_new _ _
 have F:Hid (∀(X Y:World) (cs:Array Value) (st:RS),X.heap[g]? =some (.cells cs 157 (0,0))→Fr (fun j=>j=r) w X→RDid r st X Y→Y.heap[g]? =some (.cells cs 157 (0,0))∧Fr (fun j=>j=r) w Y):=fun X Y cs st h1 h2 h3=>⟨by rw[h3.2.old g (Array.getElem?_eq_some_iff.1 h1).1 cN];exact h1,h2.trans' h3.2⟩
 have G:Hid (∀(X:World) (cs:Array Value) (st:RS) (k:Nat) (v:Value),X.heap[g]? =some (.cells cs 157 (0,0))→Fr (fun j=>j=r) w X→RI r st X→(X.setCell ⟨g,k,none⟩ v).heap[g]? =some (.cells (cs.setIfInBounds k v) 157 (0,0))∧Fr (fun j=>j=r) w (X.setCell ⟨g,k,none⟩ v)∧RI r st (X.setCell ⟨g,k,none⟩ v)):=fun X cs st k v h1 h2 h3=>⟨zH _ _ _ _ _ _ _ h1,h2.set (g:=g) (.inr (by rw[HG.out];exact Nat.le_refl _)) _ _,⟨by rw[zC _ _ _ _ _ cN.symm];exact h3.row,h3.fn,h3.nt,h3.small⟩⟩
 have R:Hid (∀(X Y:World) (B n:Nat) (v:Value) (xs:List Value) (st cR:RS),X.ownsRow B 131 2 v n xs→RI r st X→RDid r cR X Y→Y.ownsRow B 131 2 v n xs):=fun X Y B n v xs st cR ho hi hd=>zD ho (fun q hq=>hd.2.old q (zG ho q hq) (fun e=>by
  obtain⟨cur,hc⟩:=zB ho q hq
  have h2:=hi.row
  rw[←e,hc]at h2;simp at h2))
 have J:Hid (∀(X:World) (B n k:Nat) (v u:Value) (xs:List Value) (cs:Array Value),X.ownsRow B 131 2 v n xs→X.heap[g]? =some (.cells cs 157 (0,0))→(X.setCell ⟨g,k,none⟩ u).ownsRow B 131 2 v n xs):=fun X B n k v u xs cs ho A=>zD ho (fun q hq=>zC _ _ _ _ _ (fun e=>by
  obtain⟨cur,hc⟩:=zB ho q hq
  rw[e,A]at hc;simp at hc))
 have aF:Hid (s.told=if Q.wrong then ⟨Q,root,lst,L,num,⟨#[]⟩⟩ else ⟨((if 512<L.cnt then Q.refuse else Q).bytes (L.cnt*32)).1,root,lst,L,num,((if 512<L.cnt then Q.refuse else Q).bytes (L.cnt*32)).2⟩):=by
  show _=_
  unfold RS.told
  simp only[bK,bL,a7,hL,aQ,aJ,aI]
 have d4:Hid (Q.wrong=false→L.cnt≤10000000):=fun hw=>by
  obtain⟨k0,k1,k2,k3⟩:=aH hw
  have h1:nst (L.K*L.C) (zM L.es)≤zM L.es:=zHz _ _ (Nat.mul_pos k0 k2)
  exact Nat.le_trans (Nat.mul_le_mul (Nat.le_trans h1 dB) k1) (by omega)
 have cB:Hid _:=aH
 clear h bK bL a7 hL aQ aJ aI aH hW
 go_enter Tryz.func93,Tryz.ntmps93
 go_wp2_with fail
 try rw[bC]
 try rw[hg]
 clear bC hg
 refine Calls.mono (H0.out _ d8.out) ?_
 rintro e w0 ⟨rfl,D⟩
 obtain⟨A,hf⟩:=F.out _ _ _ _ cK.out d6.out D
 have cF:Hid _:=A
 have bW:Hid _:=hf
 have c9:Hid (RI r s0 w0):=D.1
 clear A hf D
 go_wp2_with fail
 refine Calls.mono (H1.out _ c9.out) ?_
 rintro e w1 ⟨rfl,D⟩
 obtain⟨A,hf⟩:=F.out _ _ _ _ cF.out bW.out D
 have c0:w1.cell? ⟨g,0,none⟩=some (.string ⟨#[]⟩):=cell_of_row _ _ _ _ 157 _ A
 have f0:=frozen_of_row w1 g 0 _ 157 A
 obtain⟨bJ,bH,aP⟩:=G.out w1 _ s1 0 (.string root) A hf D.1
 obtain⟨X1,bD⟩:∃X,w1.setCell ⟨g,0,none⟩ (.string root)=X:=⟨_,rfl⟩
 rw[bD]at bJ bH aP
 have cG:Hid (X1.heap[g]? =some (.cells (zBE root ⟨#[]⟩ 0 0 0 0 (.slice none 0 0) ⟨#[]⟩ 0 0 (.slice none 0 0)) 157 (0,0))):=bJ
 have b0:Hid _:=bH
 have cA:Hid _:=aP
 have HP:Hid _:=zIS r s1 X1 aP
 clear D A hf bJ bH aP
 go_wp2_with fail
 try rw[bD]
 clear bD c0 f0
 refine Calls.mono HP.out ?_
 rintro e fZ ⟨rfl,rfl⟩
 go_wp2_with fail
 refine Calls.mono (H2.out _ cA.out) ?_
 rintro e w2 ⟨vE,rfl,N,D⟩
 replace N:=zP N b0.out.size
 obtain⟨aE,kE,dC⟩:=zA N
 subst dC
 obtain⟨A,hf⟩:=F.out _ _ _ _ cG.out b0.out D
 have a2:w2.cell? ⟨g,2,none⟩=some (.int .i64 0):=cell_of_row _ _ _ _ 157 _ A
 have b2:=frozen_of_row w2 g 2 _ 157 A
 obtain⟨r2,q2,i2⟩:=G.out w2 _ L.st 2 (.int .i64 L.K) A hf D.1
 replace r2:(w2.setCell ⟨g,2,none⟩ (.int .i64 L.K)).heap[g]? =some (.cells (zBE root ⟨#[]⟩ L.K 0 0 0 (.slice none 0 0) ⟨#[]⟩ 0 0 (.slice none 0 0)) 157 (0,0)):=r2
 have o2:=J.out _ _ _ 2 _ (.int .i64 L.K) _ _ N A
 have a3:(w2.setCell ⟨g,2,none⟩ (.int .i64 L.K)).cell? ⟨g,3,none⟩=some (.int .i64 0):=cell_of_row _ _ _ _ 157 _ r2
 have b3:=frozen_of_row _ g 3 _ 157 r2
 obtain⟨r3,q3,i3⟩:=G.out _ _ L.st 3 (.int .i64 L.M) r2 q2 i2
 replace r3:((w2.setCell ⟨g,2,none⟩ (.int .i64 L.K)).setCell ⟨g,3,none⟩ (.int .i64 L.M)).heap[g]? =some (.cells (zBE root ⟨#[]⟩ L.K L.M 0 0 (.slice none 0 0) ⟨#[]⟩ 0 0 (.slice none 0 0)) 157 (0,0)):=r3
 have o3:=J.out _ _ _ 3 _ (.int .i64 L.M) _ _ o2 r2
 have a4:((w2.setCell ⟨g,2,none⟩ (.int .i64 L.K)).setCell ⟨g,3,none⟩ (.int .i64 L.M)).cell? ⟨g,4,none⟩=some (.int .i64 0):=cell_of_row _ _ _ _ 157 _ r3
 have b4:=frozen_of_row _ g 4 _ 157 r3
 obtain⟨r4,q4,i4⟩:=G.out _ _ L.st 4 (.int .i64 L.C) r3 q3 i3
 replace r4:(((w2.setCell ⟨g,2,none⟩ (.int .i64 L.K)).setCell ⟨g,3,none⟩ (.int .i64 L.M)).setCell ⟨g,4,none⟩ (.int .i64 L.C)).heap[g]? =some (.cells (zBE root ⟨#[]⟩ L.K L.M L.C 0 (.slice none 0 0) ⟨#[]⟩ 0 0 (.slice none 0 0)) 157 (0,0)):=r4
 have o4:=J.out _ _ _ 4 _ (.int .i64 L.C) _ _ o3 r3
 have a5:(((w2.setCell ⟨g,2,none⟩ (.int .i64 L.K)).setCell ⟨g,3,none⟩ (.int .i64 L.M)).setCell ⟨g,4,none⟩ (.int .i64 L.C)).cell? ⟨g,5,none⟩=some (.int .i64 0):=cell_of_row _ _ _ _ 157 _ r4
 have b5:=frozen_of_row _ g 5 _ 157 r4
 obtain⟨r5,q5,i5⟩:=G.out _ _ L.st 5 (.int .i64 L.V) r4 q4 i4
 replace r5:((((w2.setCell ⟨g,2,none⟩ (.int .i64 L.K)).setCell ⟨g,3,none⟩ (.int .i64 L.M)).setCell ⟨g,4,none⟩ (.int .i64 L.C)).setCell ⟨g,5,none⟩ (.int .i64 L.V)).heap[g]? =some (.cells (zBE root ⟨#[]⟩ L.K L.M L.C L.V (.slice none 0 0) ⟨#[]⟩ 0 0 (.slice none 0 0)) 157 (0,0)):=r5
 have o5:=J.out _ _ _ 5 _ (.int .i64 L.V) _ _ o4 r4
 have a6:((((w2.setCell ⟨g,2,none⟩ (.int .i64 L.K)).setCell ⟨g,3,none⟩ (.int .i64 L.M)).setCell ⟨g,4,none⟩ (.int .i64 L.C)).setCell ⟨g,5,none⟩ (.int .i64 L.V)).cell? ⟨g,6,none⟩=some (.slice none 0 0):=cell_of_row _ _ _ _ 157 _ r5
 have b6:=frozen_of_row _ g 6 _ 157 r5
 obtain⟨r6,q6,i6⟩:=G.out _ _ L.st 6 (.slice aE L.es.length kE) r5 q5 i5
 have o6:=J.out _ _ _ 6 _ (.slice aE L.es.length kE) _ _ o5 r5
 obtain⟨X6,bE⟩:∃X,((((w2.setCell ⟨g,2,none⟩ (.int .i64 L.K)).setCell ⟨g,3,none⟩ (.int .i64 L.M)).setCell ⟨g,4,none⟩ (.int .i64 L.C)).setCell ⟨g,5,none⟩ (.int .i64 L.V)).setCell ⟨g,6,none⟩ (.slice aE L.es.length kE)=X:=⟨_,rfl⟩
 rw[bE]at r6 q6 i6 o6
 have cH:Hid (X6.heap[g]? =some (.cells (zBE root ⟨#[]⟩ L.K L.M L.C L.V (.slice aE L.es.length kE) ⟨#[]⟩ 0 0 (.slice none 0 0)) 157 (0,0))):=r6
 have bX:Hid _:=q6
 have aL:Hid _:=i6
 have cC:Hid _:=o6
 clear A hf D N r2 q2 i2 o2 r3 q3 i3 o3 r4 q4 i4 o4 r5 q5 i5 o5 r6 q6 i6 o6
 go_wp2_with fail
 try rw[bE]
 clear bE a2 b2 a3 b3 a4 b4 a5 b5 a6 b6
 refine Calls.mono (H4.out _ aL.out) ?_
 rintro e w7 ⟨rfl,hB⟩
 have D:=RDid.same aL.out hB
 obtain⟨A,hf⟩:=F.out _ _ _ _ cH.out bX.out D
 have N:=R.out _ _ _ _ _ _ _ _ cC.out aL.out D
 have a1:w7.cell? ⟨g,1,none⟩=some (.string ⟨#[]⟩):=cell_of_row _ _ _ _ 157 _ A
 have b1:=frozen_of_row w7 g 1 _ 157 A
 obtain⟨r7,q7,i7⟩:=G.out w7 _ L.st 1 (.string lst) A hf D.1
 have o7:=J.out _ _ _ 1 _ (.string lst) _ _ N A
 obtain⟨X7,bF⟩:∃X,w7.setCell ⟨g,1,none⟩ (.string lst)=X:=⟨_,rfl⟩
 rw[bF]at r7 q7 i7 o7
 have a5:X7.cell? ⟨g,5,none⟩=some (.int .i64 L.V):=cell_of_row _ _ _ _ 157 _ r7
 have cI:Hid (X7.heap[g]? =some (.cells (zBE root lst L.K L.M L.C L.V (.slice aE L.es.length kE) ⟨#[]⟩ 0 0 (.slice none 0 0)) 157 (0,0))):=r7
 have bY:Hid _:=q7
 have b7:Hid _:=i7
 have cD:Hid _:=o7
 clear hB A hf D N r7 q7 i7 o7
 go_wp2_with fail
 try rw[bF]
 clear bF a1 b1 a5
 rw[show wrap64 ((L.V:Int)-1)=(L.V:Int)-1 by have:=HV.out;unfold wrap64;omega]
 refine Calls.mono (H3.out _ b7.out) ?_
 rintro e w8 ⟨rfl,D⟩
 obtain⟨A,hf⟩:=F.out _ _ _ _ cI.out bY.out D
 have N:=R.out _ _ _ _ _ _ _ _ cD.out b7.out D
 have a8:w8.cell? ⟨g,8,none⟩=some (.int .i64 0):=cell_of_row _ _ _ _ 157 _ A
 have b8:=frozen_of_row w8 g 8 _ 157 A
 obtain⟨r8,q8,i8⟩:=G.out w8 _ Q 8 (.int .i64 num) A hf D.1
 have o8:=J.out _ _ _ 8 _ (.int .i64 num) _ _ N A
 obtain⟨X8,bG⟩:∃X,w8.setCell ⟨g,8,none⟩ (.int .i64 num)=X:=⟨_,rfl⟩
 rw[bG]at r8 q8 i8 o8
 have HW:Hid _:=zK0 r Q X8 i8
 have cJ:Hid (X8.heap[g]? =some (.cells (zBE root lst L.K L.M L.C L.V (.slice aE L.es.length kE) ⟨#[]⟩ num 0 (.slice none 0 0)) 157 (0,0))):=r8
 have bZ:Hid _:=q8
 have b9:Hid _:=i8
 have cE:Hid _:=o8
 clear A hf D N r8 q8 i8 o8
 go_wp2_with fail
 try rw[bG]
 clear bG a8 b8
 refine Calls.mono HW.out ?_
 rintro e w9 ⟨rfl,hB⟩
 have D:=RDid.same b9.out hB
 obtain⟨A,hf⟩:=F.out _ _ _ _ cJ.out bZ.out D
 have N:=R.out _ _ _ _ _ _ _ _ cE.out b9.out D
 have Z:Hid _:=A
 have c8:Hid _:=hf
 have bA:Hid _:=D.1
 have bB:Hid _:=N
 clear A hf D N hB cF bW c9 cG b0 cA cH bX aL cC cI bY b7 cD HW cJ bZ b9 cE
 cases hwr:Q.wrong with
 |true=>
  go_wp2_with fail
  go_ret
  rw[aF.out,if_pos hwr]
  exact⟨g,_,rfl,Nat.le_of_eq HG.out,Z.out,bB.out,bA.out,c8.out⟩
 |false=>
  obtain⟨k0,k1,k2,k3⟩:=cB.out hwr
  have c2:w9.cell? ⟨g,2,none⟩=some (.int .i64 L.K):=cell_of_row _ _ _ _ 157 _ Z.out
  have c3:w9.cell? ⟨g,3,none⟩=some (.int .i64 L.M):=cell_of_row _ _ _ _ 157 _ Z.out
  have c4:w9.cell? ⟨g,4,none⟩=some (.int .i64 L.C):=cell_of_row _ _ _ _ 157 _ Z.out
  have c5:w9.cell? ⟨g,5,none⟩=some (.int .i64 L.V):=cell_of_row _ _ _ _ 157 _ Z.out
  have c6:w9.cell? ⟨g,6,none⟩=some (.slice aE L.es.length kE):=cell_of_row _ _ _ _ 157 _ Z.out
  have HC:Hid _:=zHW g _ L.es.length kE L.K L.M L.C L.V aE L.es w9 c2 c3 c4 c5 c6 rfl bB.out (fun i=>Nat.le_trans (zQ _ i) (by omega)) (by omega) k0 k1 k2 k3
  clear c2 c3 c4 c5 c6 k0 k1 k2 k3
  go_wp2_with fail
  refine Calls.mono HC.out ?_
  rintro e cS ⟨rfl,hB⟩
  have D:=RDid.same bA.out hB
  obtain⟨A,hf⟩:=F.out _ _ _ _ Z.out c8.out D
  have N:=R.out _ _ _ _ _ _ _ _ bB.out bA.out D
  have aU:Hid _:=A
  have aS:Hid _:=hf
  have aD:Hid _:=D.1
  have aT:Hid _:=N
  clear A hf D N hB HC
  obtain⟨U,aO⟩:∃x,L.cnt=x:=⟨_,rfl⟩
  have aY:nst (L.K*L.C) (zM L.es)*(L.K+L.M)=U:=aO
  rw[aY]
  have fW:U≤10000000:=by rw[←aO];exact d4.out hwr
  have HT:Hid (s.told=⟨((if 512<U then Q.refuse else Q).bytes (U*32)).1,root,lst,L,num,((if 512<U then Q.refuse else Q).bytes (U*32)).2⟩):=by
   show _=_
   rw[aF.out,if_neg (by rw[hwr];simp),aO]
  clear aO aY
  have aR:Hid (∀(s3:RS) (X:World),(if 512<U then Q.refuse else Q)=s3→X.heap[g]? =some (.cells (zBE root lst L.K L.M L.C L.V (.slice aE L.es.length kE) ⟨#[]⟩ num 0 (.slice none 0 0)) 157 (0,0))→Fr (fun j=>j=r) w X→RI r s3 X→X.ownsRow w.heap.size 131 2 (.slice aE L.es.length kE) L.es.length (enV L.es)→Calls Tryz.prog 96 #[.pointer (some ⟨r,0,none⟩),.int .i64 (U*32:Nat)] X fun e w'=>e=.returned (.string s.told.lv)∧w'.cell? ⟨g,7,none⟩=some (.string ⟨#[]⟩)∧w'.frozen? ⟨g,7,none⟩=false∧Hid ((w'.setCell ⟨g,7,none⟩ (.string s.told.lv)).heap[g]? =some (.cells (zBE s.told.root s.told.lst s.told.L.K s.told.L.M s.told.L.C s.told.L.V (.slice aE L.es.length kE) s.told.lv s.told.num 0 (.slice none 0 0)) 157 (0,0))∧(w'.setCell ⟨g,7,none⟩ (.string s.told.lv)).ownsRow w.heap.size 131 2 (.slice aE L.es.length kE) s.told.L.es.length (enV s.told.L.es)∧RDid r s.told.st w (w'.setCell ⟨g,7,none⟩ (.string s.told.lv)))):=by
   intro s3 X h3 A hf hi ho
   have cL:=HT.out
   rw[h3]at cL
   rw[cL]
   refine Calls.mono (zCy r s3 (U*32) X hi (by omega)) ?_
   rintro e w' ⟨rfl,D⟩
   obtain⟨A,hf⟩:=F.out _ _ _ _ A hf D
   have N:=R.out _ _ _ _ _ _ _ _ ho hi D
   obtain⟨r8,q8,i8⟩:=G.out w' _ _ 7 (.string (s3.bytes (U*32)).2) A hf D.1
   have o8:=J.out _ _ _ 7 _ (.string (s3.bytes (U*32)).2) _ _ N A
   exact⟨rfl,cell_of_row _ _ _ _ 157 _ A,frozen_of_row w' g 7 _ 157 A,r8,o8,i8,q8⟩
  by_cases aX:512<U
  ·have d9:Hid _:=zBC r Q cS aD.out
   go_wp2_with fail
   refine Calls.mono d9.out ?_
   rintro e dM ⟨rfl,D⟩
   obtain⟨A,hf⟩:=F.out _ _ _ _ aU.out aS.out D
   have N:=R.out _ _ _ _ _ _ _ _ aT.out aD.out D
   have HE:Hid _:=aR.out Q.refuse dM (if_pos aX) A hf D.1 N
   clear A hf N D
   go_wp2_with fail
   rw[show (U:Int)*32=((U*32:Nat):Int) by simp]
   refine Calls.mono HE.out ?_
   rintro e dN ⟨rfl,c7,f7,HH⟩
   go_wp2_with fail
   go_ret
   exact⟨g,_,rfl,Nat.le_of_eq HG.out,HH.out⟩
  ·have HE:Hid _:=aR.out Q cS (if_neg aX) aU.out aS.out aD.out aT.out
   go_wp2_with fail
   rw[show (U:Int)*32=((U*32:Nat):Int) by simp]
   refine Calls.mono HE.out ?_
   rintro e dN ⟨rfl,c7,f7,HH⟩
   go_wp2_with fail
   go_ret
   exact⟨g,_,rfl,Nat.le_of_eq HG.out,HH.out⟩
end Go.Proofs.YtlopecgkiikdhaaGreatDoor
