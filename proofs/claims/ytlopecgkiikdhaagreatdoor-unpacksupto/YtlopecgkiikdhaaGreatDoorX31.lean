import Derived.Test.YtlopecgkiikdhaaGreatDoorX30
namespace Go.Proofs.YtlopecgkiikdhaaGreatDoor
open Go.RowKit
set_option maxRecDepth 100000
set_option maxHeartbeats 4000000
structure CRest (w0:World)(c h:Nat)(R:Option (Nat×Nat))(d:HD)(f n:Nat)(v:Value)(w':World):Prop where
 bel:Below w0.heap.size w0 w'
 bad:∀k p,R=some (k,p)→w'.ownsRow w0.heap.size 121 2 v 1 (mkL [((k:Int),(p:Int))])
 good:R=none→v=.slice none 0 0∧∃vB st',HI w0 c h st' { d with first:=f,vB:=vB,nb:=n } w'
theorem CRest.no {u:World}{c h:Nat}{R:Option (Nat×Nat)}{d:HD}{f n k p:Nat}{v:Value}{w':World}(e:R=some (k,p))(hb:Below u.heap.size u w')(A:w'.ownsRow u.heap.size 121 2 v 1 (mkL [((k:Int),(p:Int))])):CRest u c h R d f n v w':=
 ⟨hb,fun k' D j=>by rw[e]at j;cases j;exact A,fun j=>by rw[e]at j;cases j⟩
theorem CRest.yes {D:World}{c h:Nat}{R:Option (Nat×Nat)}{d:HD}{f n:Nat}{w':World}{vB:Value}{j:RS}(e:R=none)(A:HI D c h j { d with first:=f,vB:=vB,nb:=n } w'):CRest D c h R d f n (.slice none 0 0) w':=
 ⟨A.bel,fun k p u=>by rw[e]at u;(cases u),fun _=>⟨rfl,vB,j,A⟩⟩
theorem zAN (k i:Int)(j w:World)(hb:Below j.heap.size j w):Calls Tryz.prog 18 #[.int .i64 k,.int .i64 i] w fun e w'=>∃v,e=.returned v∧w'.ownsRow j.heap.size 121 2 v 1 (mkL [(k,i)])∧Below j.heap.size j w':=by
 refine Calls.mono (zBg k i w) ?_
 rintro e w' ⟨v,rfl,A,u⟩
 exact⟨v,rfl,zP A hb.size,hb.trans (u.mono hb.size)⟩
theorem zOr (kt:Nat→Int)(w0:World)(c h b first en:Nat)(st s5:RS)(ck dg rt A:ByteArray)(d:HD)(w:World)(R:Option (Nat×Nat))(hI:HI w0 c h st d w)(hG:Gr kt w0)(hw:st.wrong=false)(hk:st.bytes 32=(s5,ck))
 (bD:ofT kt (⟨#[3]⟩++st.text.extract 0 st.next)=dg) (bE:ofT kt (⟨#[2]⟩++zA1 d.K d.M d.C d.V d.es.length (nmE d.es) (lnE d.es)++zAj (ofT kt) d.nl d.Lf)=rt)
 (a1:st.text.extract s5.next st.text.size=A) (cK:d.nb=0) (bM:∀j,d.Bk j=pc A d.C j)
 (hf:d.num*b/d.V=first) (he:(d.num+1)*b/d.V=en)
 (hR:R=if s5.wrong then some (7,st.next) else if ck=dg then (if d.root=rt then (if (en-first)*d.C<A.size then some (7,s5.next+(en-first)*d.C) else none) else some (9,4)) else some (8,st.next))
 (dJ:d.K+d.M≤255) (dG:1≤d.C) (dH:d.C≤64) (dK:1≤d.V) (dL:d.V≤16) (cT:d.num<d.V) (bS:b≤512) (dP:d.es.length≤16) (bV:∀j,(nmE d.es j).size≤1000) (cQ:∀j,lnE d.es j≤100000)
 (bU:∀i,i<d.nl→(d.Lf i).size≤32) (ht:st.text.size≤60000):
 Calls Tryz.prog 51 #[.pointer (some ⟨c,0,none⟩),.pointer (some ⟨h,0,none⟩),.int .i64 b] w fun e w'=>∃v,e=.returned v∧CRest w0 c h R d first (A.size/d.C) v w':=by
 obtain⟨K,M,C,V,root,vE,es,num,vL,nl,Lf,bC,vB,nb,Bk⟩:=d
 simp only[]at bE cK bM hf he hR dJ dG dH dK dL cT dP bV cQ bU
 subst cK
 have cU:st.next≤st.text.size:=hI.cur.nt
 obtain⟨u,U⟩:∃x,st.next=x:=⟨_,rfl⟩
 obtain⟨text,aC⟩:∃x,st.text=x:=⟨_,rfl⟩
 rw[U]at bD hR cU
 rw[aC]at bD a1 ht cU
 have cP:atC st=u:=(zBf hw).trans U
 have cG:Hid _:=hI
 have HG:Hid _:=hG
 have HR:Hid _:=hR
 have c1:w.cell? ⟨c,1,none⟩=some (.int .i64 (atC st:Nat)):=cell_of_row _ _ _ _ 124 _ hI.cur.row
 rw[cP]at c1
 have bH:Hid _:=zHI c st 32 w hI.cur (by decide)
 rw[hk]at bH
 have cJ:Hid (s5.wrong=false→s5.text=text∧s5.next=u+32∧u+32≤text.size):=by
  intro h5
  have e5:(st.bytes 32).1=s5:=by rw[hk]
  rw[←aC,←U,←e5]
  have N:(st.bytes 32).1.wrong=false:=by rw[e5];exact h5
  refine⟨(zZ st 32).1,?_,?_⟩
  ·unfold RS.bytes at N ⊢
   rw[hw]at N ⊢
   simp only[Bool.false_eq_true,if_false]at N ⊢
   split at N
   ·cases N
   ·rename_i hn
    rw[if_neg hn]
  ·unfold RS.bytes at N
   rw[hw]at N
   simp only[Bool.false_eq_true,if_false]at N
   split at N
   ·cases N
   ·rename_i hn
    rw[aC,U]at hn ⊢
    omega
 have cF:Hid (∀X:World,Below w0.heap.size w0 X→Calls Tryz.prog 77 #[.string (⟨#[3]⟩++text.extract 0 u)] X fun e w'=>e=.returned (.string dg)∧Below X.heap.size X w'):=fun X hX=>by
  rw[←bD]
  refine zb kt _ X ?_ (hG.below hX)
  rw[ByteArray.size_append,ByteArray.size_extract]
  have:(⟨#[3]⟩:ByteArray).size=1:=rfl
  omega
 clear hI hG hk bD hR cP
 go_enter Tryz.func51,Tryz.ntmps51
 go_wp2_with fail
 refine Calls.mono bH.out ?_
 rintro e w1 ⟨rfl,hD⟩
 have H1:Hid _:=cG.out.go hD
 have g2:w1.cell? ⟨c,2,none⟩=some (.bool s5.wrong):=cell_of_row _ _ _ _ 124 _ H1.out.cur.row
 have g0:w1.cell? ⟨c,0,none⟩=some (.string s5.text):=cell_of_row _ _ _ _ 124 _ H1.out.cur.row
 clear hD bH cG c1
 cases hw5:s5.wrong with
 |true=>
  rw[hw5]at g2
  clear g0
  go_wp2_with fail
  refine Calls.mono (zAN 7 u w0 w1 H1.out.bel) ?_
  rintro e D ⟨v,rfl,ho,hB⟩
  obtain⟨va,vc,rfl⟩:=zA ho
  have HO:Hid _:=ho
  have HB:Hid _:=hB
  clear ho hB
  go_wp2_with fail
  go_ret
  exact⟨_,rfl,CRest.no (by rw[HR.out,if_pos hw5]) HB.out HO.out⟩
 |false=>
  obtain⟨t5,n5,l5⟩:=cJ.out hw5
  rw[hw5]at g2
  rw[t5]at g0
  rw[hw5,if_neg (by simp)]at HR
  have k1:(0:Int)≤(u:Int):=by omega
  have k2:(u:Int)≤(text.size:Int):=by omega
  clear cJ
  go_wp2_with fail
  refine Calls.mono (cF.out _ H1.out.bel) ?_
  rintro e D ⟨rfl,hB⟩
  have H2:Hid _:=H1.out.low hB
  clear hB cF H1 g2 g0 k1 k2
  by_cases aW:ck=dg
  ·rw[if_pos aW]at HR
   have dM:=zS aW
   clear aW
   have aY:=H2.out.oE
   have aZ:=H2.out.oL
   simp only[]at aY aZ
   obtain⟨aE,cE,dS⟩:=zA aY
   subst dS
   obtain⟨aL,cL,dT⟩:=zA aZ
   subst dT
   have dN:h<D.heap.size:=(Array.getElem?_eq_some_iff.1 H2.out.row).1
   have HV:Hid (∀X:World,Below D.heap.size D X→X.cell? ⟨h,0,none⟩=some (.int .i64 K)∧X.cell? ⟨h,1,none⟩=some (.int .i64 M)∧X.cell? ⟨h,2,none⟩=some (.int .i64 C)∧X.cell? ⟨h,3,none⟩=some (.int .i64 V)∧X.cell? ⟨h,4,none⟩=some (.string root)∧X.cell? ⟨h,5,none⟩=some (.slice aE es.length cE)∧X.cell? ⟨h,7,none⟩=some (.slice aL nl cL)):=fun X hX=>by
    have h1:=(hX.block h dN).trans H2.out.row
    exact⟨cell_of_row _ _ _ _ 84 _ h1,cell_of_row _ _ _ _ 84 _ h1,cell_of_row _ _ _ _ 84 _ h1,cell_of_row _ _ _ _ 84 _ h1,cell_of_row _ _ _ _ 84 _ h1,cell_of_row _ _ _ _ 84 _ h1,cell_of_row _ _ _ _ 84 _ h1⟩
   obtain⟨lst,aF⟩:∃x,zA1 K M C V es.length (nmE es) (lnE es)=x:=⟨_,rfl⟩
   obtain⟨bF,aG⟩:∃x,⟨#[2]⟩++lst++zAj (ofT kt) nl Lf=x:=⟨_,rfl⟩
   rw[aF,aG]at bE
   have dO:lst.size≤2000000:=by rw[←aF];exact zCL _ _ _ _ _ _ _ bV (by omega)
   have cB:Hid (∀X:World,Below D.heap.size D X→Calls Tryz.prog 79 #[.agg #[.int .i64 K,.int .i64 M,.int .i64 C,.int .i64 V],.slice aE es.length cE] X fun e w'=>e=.returned (.string lst)∧Below X.heap.size X w'):=fun X hX=>by
    rw[←aF]
    exact zBR K M C V es.length cE aE (nmE es) (lnE es) X (by omega) (by omega) (by omega) (by omega) (by omega) bV cQ (zd rfl (zD aY (fun q hq=>hX.block q (zG aY q hq))))
   have cC:Hid (∀X:World,Below D.heap.size D X→Calls Tryz.prog 78 #[.string lst,.slice aL nl cL] X fun e w'=>e=.returned (.string bF)∧Below X.heap.size X w'):=fun X hX=>by
    rw[←aG]
    exact zC0 kt lst Lf nl w0.heap.size _ X (by omega) (HG.out.below (H2.out.bel.trans (hX.mono H2.out.bel.size))) bU (zD aZ (fun q hq=>hX.block q (zG aZ q hq)))
   have bZ:bF.size≤140737488351232:=by
    rw[←aG,ByteArray.size_append,ByteArray.size_append]
    have h1:(⟨#[2]⟩:ByteArray).size=1:=rfl
    have h2:=zAe (ofT kt) 32 (fun s=>Nat.le_of_eq (zw kt s)) nl Lf bU
    omega
   have cD:Hid (∀X:World,Below D.heap.size D X→Calls Tryz.prog 77 #[.string bF] X fun e w'=>e=.returned (.string rt)∧Below X.heap.size X w'):=fun X hX=>by
    rw[←bE]
    exact zb kt bF X bZ (HG.out.below (H2.out.bel.trans (hX.mono H2.out.bel.size)))
   obtain⟨v0,v1,v2,v3,v4,v5,v7⟩:=HV.out D (Below.refl _ _)
   clear aF aG bE aY aZ bZ dO
   go_wp2_with fail
   go_region_held3 (fun D=>D.cell? ⟨h,0,none⟩=some (.int .i64 K)∧D.cell? ⟨h,1,none⟩=some (.int .i64 M)∧D.cell? ⟨h,2,none⟩=some (.int .i64 C)∧D.cell? ⟨h,3,none⟩=some (.int .i64 V)∧D.cell? ⟨h,4,none⟩=some (.string root)∧D.cell? ⟨h,5,none⟩=some (.slice aE es.length cE)∧D.cell? ⟨h,7,none⟩=some (.slice aL nl cL)) (go_keep) (first|(go_at_call 79;refine Calls.mono (cB.out _ (by first|exact Below.refl _ _|exact (Below.refl _ _).drew)) ?_;rintro e w7 ⟨rfl,bT⟩;have aT:Below D.heap.size D w7:=(by first|exact bT|exact ((Below.refl _ _).drew).trans bT);obtain⟨x0,x1,x2,x3,x4,x5,x7⟩:=HV.out w7 aT)|(go_at_call 78;refine Calls.mono (cC.out _ aT) ?_;rintro e w8 ⟨rfl,hb8⟩;have aU:Below D.heap.size D w8:=(aT.trans (hb8.mono aT.size));obtain⟨y0,y1,y2,y3,y4,y5,y7⟩:=HV.out w8 aU)|(go_at_call 77;refine Calls.mono (cD.out _ aU) ?_;rintro e w9 ⟨rfl,hb9⟩;have cM:Below D.heap.size D w9:=(aU.trans (hb9.mono aU.size));obtain⟨z0,z1,z2,z3,z4,z5,z7⟩:=HV.out w9 cM))
   have H3:Hid _:=H2.out.low cM
   clear v0 v1 v2 v3 v4 v5 v7 x0 x1 x2 x3 x4 x5 x7 y0 y1 y2 y3 y4 y5 y7 aT aU bT hb8 hb9 cB cC cD
   by_cases b4:root=rt
   ·rw[if_pos b4]at HR
    have b3:(!(root.toList == rt.toList))=false:=by rw[zS b4];rfl
    rw[b3]
    clear b3 b4
    have fI:first≤en:=by rw[←hf,←he];exact Nat.div_le_div_right (Nat.mul_le_mul_right _ (by omega))
    have fH:en≤512:=by rw[←he];exact Nat.le_trans (Nat.div_le_div_right (Nat.mul_le_mul (show num+1≤V by omega) bS)) (by rw[Nat.mul_div_cancel_left _ (by omega)];exact Nat.le_refl _)
    have dW:num*b≤16*512:=Nat.mul_le_mul (by omega) bS
    have dX:(num+1)*b≤16*512:=Nat.mul_le_mul (by omega) bS
    obtain⟨Z1,bP⟩:∃Z,num*b=Z:=⟨_,rfl⟩
    obtain⟨Z2,bQ⟩:∃Z,(num+1)*b=Z:=⟨_,rfl⟩
    rw[bP]at dW hf
    rw[bQ]at dX he
    have e1:(num:Int)*(b:Int)=(Z1:Int):=by rw[←bP];simp
    have e2:((num:Int)+1)*(b:Int)=(Z2:Int):=by rw[←bQ];simp
    have d1:(Z1:Int).tdiv (V:Int)=(first:Int):=by rw[Int.tdiv_eq_ediv_of_nonneg (by omega),←hf,Int.natCast_ediv]
    have d2:(Z2:Int).tdiv (V:Int)=(en:Int):=by rw[Int.tdiv_eq_ediv_of_nonneg (by omega),←he,Int.natCast_ediv]
    have u1:IntKind.i64.wrap (Z1:Int)=(Z1:Int):=by rw[IntKind.wrap_i64];omega
    have u2:IntKind.i64.wrap (Z2:Int)=(Z2:Int):=by rw[IntKind.wrap_i64];omega
    have u3:IntKind.i64.wrap (first:Int)=(first:Int):=by rw[IntKind.wrap_i64];omega
    have u4:IntKind.i64.wrap (en:Int)=(en:Int):=by rw[IntKind.wrap_i64];omega
    have u5:IntKind.i64.wrap ((num:Int)+1)=(num:Int)+1:=by rw[IntKind.wrap_i64];omega
    have fG:((V:Int) == 0)=false:=by simp;omega
    have fE:¬(V:Int)=0:=by omega
    have fF:¬V=0:=by omega
    have z6:w9.cell? ⟨h,6,none⟩=some (.int .i64 num):=cell_of_row _ _ _ _ 84 _ H3.out.row
    have z8:w9.cell? ⟨h,8,none⟩=some (.int .i64 bC):=cell_of_row _ _ _ _ 84 _ H3.out.row
    have f8:=frozen_of_row w9 h 8 _ 84 H3.out.row
    clear z0 z1 z2 z4 z5 z7 bP bQ hf he
    go_wp2_with fail
    go_region
    obtain⟨W,F⟩:∃W,(w9.setCell ⟨h,8,none⟩ (.int .i64 first)).drew=W:=⟨_,rfl⟩
    have H4:Hid (HI w0 c h s5 ⟨K,M,C,V,root,.slice aE es.length cE,es,num,.slice aL nl cL,nl,Lf,first,vB,0,Bk⟩ W):=by
     show HI _ _ _ _ _ _
     rw[←F]
     exact (H3.out.set (d':=⟨K,M,C,V,root,.slice aE es.length cE,es,num,.slice aL nl cL,nl,Lf,first,vB,0,Bk⟩) 8 (.int .i64 first) rfl rfl rfl rfl rfl rfl rfl rfl rfl).drew
    rw[F]
    have W8:W.cell? ⟨h,8,none⟩=some (.int .i64 first):=cell_of_row _ _ _ _ 84 _ H4.out.row
    clear F z3 z6 z8 f8 H3 d1 e1 u1
    have bZ:A.size=text.size-(u+32):=by rw[←a1,n5,ByteArray.size_extract];omega
    have dA:Hid (∀j,(u+32+j*C)+C≤text.size→text.extract (u+32+j*C) (u+32+j*C+C)=Bk j):=fun j fJ=>by
     rw[bM,pc,←a1,n5,ByteArray.extract_extract,Nat.succ_mul]
     congr 1<;>omega
    clear a1 bM
    go_wp2_with fail
    go_loopw [9,10] (fun iv _ wr=>∃(j:Nat) (vb:Value) (G:RS),j≤en-first∧iv=.int .i64 ((first+j:Nat))∧G.wrong=false∧G.text=text∧G.next=u+32+j*C∧HI w0 c h G ⟨K,M,C,V,root,.slice aE es.length cE,es,num,.slice aL nl cL,nl,Lf,first,vb,j,Bk⟩ wr) (fun iv _ _=>en-(intOf iv).toNat)
    case atStart=>exact⟨0,vB,s5,Nat.zero_le _,rfl,hw5,t5,by rw[n5];simp,H4.out⟩
    case round=>
     obtain⟨j,vb,G,hj,rfl,b6,b5,cS,a5⟩:=hrel
     have bJ:Hid _:=a5
     have dQ:G.next≤text.size:=by rw[←b5];exact a5.cur.nt
     have aV:atC G=G.next:=zBf b6
     obtain⟨nx,Q⟩:∃x,G.next=x:=⟨_,rfl⟩
     rw[Q]at dQ aV
     have aH:Hid (nx=u+32+j*C):=Q.symm.trans cS
     have a2:wr.cell? ⟨h,2,none⟩=some (.int .i64 C):=cell_of_row _ _ _ _ 84 _ a5.row
     have a3:wr.cell? ⟨h,3,none⟩=some (.int .i64 V):=cell_of_row _ _ _ _ 84 _ a5.row
     have a6:wr.cell? ⟨h,6,none⟩=some (.int .i64 num):=cell_of_row _ _ _ _ 84 _ a5.row
     have b0:wr.cell? ⟨c,0,none⟩=some (.string G.text):=cell_of_row _ _ _ _ 124 _ a5.cur.row
     have b1:wr.cell? ⟨c,1,none⟩=some (.int .i64 (atC G:Nat)):=cell_of_row _ _ _ _ 124 _ a5.cur.row
     rw[b5]at b0
     rw[aV]at b1
     obtain⟨i,hi⟩:∃i,first+j=i:=⟨_,rfl⟩
     rw[hi]
     clear a5 aV cS
     by_cases fK:i<en
     ·have cR:(i:Int)<(en:Int):=by omega
      have u6:IntKind.i64.wrap ((text.size:Int)-(nx:Int))=(text.size:Int)-(nx:Int):=by rw[IntKind.wrap_i64];omega
      by_cases dR:text.size-nx<C
      ·have cW:(text.size:Int)-(nx:Int)<(C:Int):=by omega
       go_wp2_with fail
       go_quiet (fail)
       go_wp2_with fail
       go_quiet (fail)
       go_wp2_with fail
       go_ret
       have aX:=aH.out
       have fL:(j+1)*C≤(en-first)*C:=Nat.mul_le_mul_right _ (by omega)
       have fM:(j+1)*C=j*C+C:=Nat.succ_mul _ _
       have hq:A.size/C=j:=Nat.div_eq_of_lt_le (by omega) (by omega)
       rw[hq]
       exact⟨_,rfl,CRest.yes (by rw[HR.out,if_neg (by omega)]) ((bJ.out.drewN _).drewN _)⟩
      ·have cW:¬(text.size:Int)-(nx:Int)<(C:Int):=by omega
       have d8:Hid (G.bytes C=(⟨text,nx,nx+C,false⟩,Bk j)):=by
        show _=_
        have h1:=dA.out j (by have:=aH.out;omega)
        rw[←aH.out]at h1
        unfold RS.bytes
        rw[b6,b5,Q,if_neg (by simp),if_neg dR,h1]
       go_wp2_with fail
       go_quiet (fail)
       obtain⟨W1,F⟩:∃W,wr.drewN nq=W:=⟨_,rfl⟩
       have J:Hid (HI w0 c h G ⟨K,M,C,V,root,.slice aE es.length cE,es,num,.slice aL nl cL,nl,Lf,first,vb,j,Bk⟩ W1):=by
        show HI _ _ _ _ _ _
        rw[←F]
        exact bJ.out.drewN _
       rw[F]
       clear F a2 a3 a6 b0 b1
       have a2:W1.cell? ⟨h,2,none⟩=some (.int .i64 C):=cell_of_row _ _ _ _ 84 _ J.out.row
       have b0:W1.cell? ⟨c,0,none⟩=some (.string G.text):=cell_of_row _ _ _ _ 124 _ J.out.cur.row
       have b1:W1.cell? ⟨c,1,none⟩=some (.int .i64 (atC G:Nat)):=cell_of_row _ _ _ _ 124 _ J.out.cur.row
       rw[b5]at b0
       rw[zBf b6,Q]at b1
       go_wp2_with fail
       go_quiet (fail)
       obtain⟨W2,F⟩:∃W,W1.drewN nq=W:=⟨_,rfl⟩
       have a4:Hid (HI w0 c h G ⟨K,M,C,V,root,.slice aE es.length cE,es,num,.slice aL nl cL,nl,Lf,first,vb,j,Bk⟩ W2):=by
        show HI _ _ _ _ _ _
        rw[←F]
        exact J.out.drewN _
       rw[F]
       clear F a2 b0 b1
       have a2:W2.cell? ⟨h,2,none⟩=some (.int .i64 C):=cell_of_row _ _ _ _ 84 _ a4.out.row
       have bL:Hid _:=zHI c G C W2 a4.out.cur (by omega)
       rw[d8.out]at bL
       go_wp2_with fail
       refine Calls.mono bL.out ?_
       rintro e w5 ⟨rfl,hD⟩
       have H5:Hid _:=a4.out.go hD
       clear hD bL a2
       have bW:=H5.out.oB
       simp only[]at bW
       obtain⟨ab,cb,dU⟩:=zA bW
       subst dU
       have a9:w5.cell? ⟨h,9,none⟩=some (.slice ab j cb):=cell_of_row _ _ _ _ 84 _ H5.out.row
       obtain⟨v',w6,bG,bO,bY⟩:=H5.out.block (Bk j) (by show j≤_;omega) rfl
       have b2:=bO.oB
       simp only[]at b2
       obtain⟨dC,dE,cX⟩:=zA b2
       subst cX
       have cI:Hid ((Builtin.append_ #[22,22] 22 #[.slice ab j cb,.slice (some ⟨w5.heap.size,0,none⟩) 1 1]).run Tryz.prog (w5.alloc (.cells #[.string (Bk j)] 9))=.ok (.slice dC (j+1) dE) w6):=bG
       have d9:Hid _:=bO
       have q9:w6.cell? ⟨h,9,none⟩=some (.slice ab j cb):=cell_of_row _ _ _ _ 84 _ bY
       have p9:=frozen_of_row w6 h 9 _ 84 bY
       clear bG bO bY bW b2
       go_wp2_with (at_builtin;refine zJ rfl (.tmp 119) (.tmp 121) 22 rfl _ _ _ (by simp[Act.eval]) (by simp[Act.eval]) _ cI.out ?_)
       go_roundw
       case rel=>
        refine⟨j+1,_,⟨text,nx,nx+C,false⟩,by omega,?_,rfl,rfl,?_,d9.out⟩
        ·rw[←hi];go_num
        ·have h1:=aH.out;show nx+C=u+32+(j+1)*C;rw[Nat.succ_mul];omega
       case measure=>simp[intOf];omega
     ·have cR:¬(i:Int)<(en:Int):=by omega
      have aI:j=en-first:=by omega
      have cH:Hid _:=aI
      clear aI
      go_wp2_with fail
      go_quiet (fail)
      obtain⟨W1,F⟩:∃W,wr.drewN nq=W:=⟨_,rfl⟩
      have J:Hid (HI w0 c h G ⟨K,M,C,V,root,.slice aE es.length cE,es,num,.slice aL nl cL,nl,Lf,first,vb,j,Bk⟩ W1):=by
       show HI _ _ _ _ _ _
       rw[←F]
       exact bJ.out.drewN _
      rw[F]
      clear F a2 a3 a6 b0 b1
      have a2:W1.cell? ⟨h,2,none⟩=some (.int .i64 C):=cell_of_row _ _ _ _ 84 _ J.out.row
      have b0:W1.cell? ⟨c,0,none⟩=some (.string G.text):=cell_of_row _ _ _ _ 124 _ J.out.cur.row
      have b1:W1.cell? ⟨c,1,none⟩=some (.int .i64 (atC G:Nat)):=cell_of_row _ _ _ _ 124 _ J.out.cur.row
      rw[b5]at b0
      rw[zBf b6,Q]at b1
      by_cases fN:nx<text.size
      ·have cV:(nx:Int)<(text.size:Int):=by omega
       go_wp2_with fail
       go_quiet (fail)
       obtain⟨W2,F⟩:∃W,W1.drewN nq=W:=⟨_,rfl⟩
       have a4:Hid (HI w0 c h G ⟨K,M,C,V,root,.slice aE es.length cE,es,num,.slice aL nl cL,nl,Lf,first,vb,j,Bk⟩ W2):=by
        show HI _ _ _ _ _ _
        rw[←F]
        exact J.out.drewN _
       rw[F]
       clear F a2 b0 b1
       have b1:W2.cell? ⟨c,1,none⟩=some (.int .i64 (atC G:Nat)):=cell_of_row _ _ _ _ 124 _ a4.out.cur.row
       rw[zBf b6,Q]at b1
       go_wp2_with fail
       refine Calls.mono (zAN 7 nx w0 W2 a4.out.bel) ?_
       rintro e w6 ⟨v,rfl,ho,hB⟩
       obtain⟨va,vc,rfl⟩:=zA ho
       have HO:Hid _:=ho
       have HB:Hid _:=hB
       clear ho hB
       go_wp2_with fail
       go_ret
       have aX:=aH.out
       have aI:=cH.out
       refine⟨_,rfl,CRest.no (k:=7) (p:=nx) ?_ HB.out HO.out⟩
       rw[HR.out,←aI,if_pos (by omega),n5,aX]
      ·have cV:¬(nx:Int)<(text.size:Int):=by omega
       go_wp2_with fail
       go_quiet (fail)
       obtain⟨W2,F⟩:∃W,W1.drewN nq=W:=⟨_,rfl⟩
       have a4:Hid (HI w0 c h G ⟨K,M,C,V,root,.slice aE es.length cE,es,num,.slice aL nl cL,nl,Lf,first,vb,j,Bk⟩ W2):=by
        show HI _ _ _ _ _ _
        rw[←F]
        exact J.out.drewN _
       rw[F]
       clear F a2 b0 b1
       go_wp2_with fail
       go_ret
       have aX:=aH.out
       have aI:=cH.out
       have hq:A.size/C=j:=by rw[show A.size=j*C by omega,Nat.mul_div_cancel _ (by omega)]
       rw[hq]
       exact⟨_,rfl,CRest.yes (by rw[HR.out,←aI,if_neg (by omega)]) a4.out⟩
   ·rw[if_neg b4]at HR
    have b3:(!(root.toList == rt.toList))=true:=by rw[zW b4];rfl
    rw[b3]
    clear b3
    go_wp2_with fail
    refine Calls.mono (zAN 9 4 w0 w9 H3.out.bel) ?_
    rintro e fX ⟨v,rfl,ho,hB⟩
    obtain⟨va,vc,rfl⟩:=zA ho
    have HO:Hid _:=ho
    have HB:Hid _:=hB
    clear ho hB
    go_wp2_with fail
    go_ret
    exact⟨_,rfl,CRest.no HR.out HB.out HO.out⟩
  ·rw[if_neg aW]at HR
   have dM:=zW aW
   go_wp2_with fail
   refine Calls.mono (zAN 8 u w0 D H2.out.bel) ?_
   rintro e w3 ⟨v,rfl,ho,hB⟩
   obtain⟨va,vc,rfl⟩:=zA ho
   have HO:Hid _:=ho
   have HB:Hid _:=hB
   clear ho hB
   go_wp2_with fail
   go_ret
   exact⟨_,rfl,CRest.no HR.out HB.out HO.out⟩
def tA (t:ByteArray):RS×ByteArray:=((RS.on t).word ⟨#[86,79,76,49]⟩).bytes 32
def tL (t:ByteArray):LT:=(tA t).1.list
def tB (t:ByteArray):RS×Nat:=(tL t).st.num 0 (((tL t).V:Int)-1)
def tC (t:ByteArray):RS×ByteArray:=(tB t).1.bytes ((tL t).cnt*32)
theorem zA7 {s:RS}(h:s.wrong=true)(n:Nat):s.bytes n=(s,⟨#[]⟩):=by unfold RS.bytes;rw[if_pos h]
theorem zH2 {s:RS}(h:s.wrong=true)(lo:Nat)(hi:Int):s.num lo hi=(s,0):=by unfold RS.num;rw[if_pos h]
theorem zH0 {s:RS}(h:s.wrong=false)(lo:Nat)(hi:Int):(s.num lo hi).1.field=s.next:=by
 unfold RS.num
 rw[h,if_neg (by simp)]
 split<;>rfl
theorem zBc (t:ByteArray):(RS.on t).told=if (tB t).1.wrong then ⟨(tB t).1,(tA t).2,(tL t).st.text.extract (tA t).1.next (tL t).st.next,tL t,(tB t).2,⟨#[]⟩⟩ else ⟨((if 512<(tL t).cnt then (tB t).1.refuse else (tB t).1).bytes ((tL t).cnt*32)).1,(tA t).2,(tL t).st.text.extract (tA t).1.next (tL t).st.next,tL t,(tB t).2,((if 512<(tL t).cnt then (tB t).1.refuse else (tB t).1).bytes ((tL t).cnt*32)).2⟩:=rfl
theorem zCQ {kt:Nat→Int}{t:ByteArray}(hs:t.size≤60000)(h:(RS.on t).told.st.wrong=true):rdE kt t=some (7,(RS.on t).told.st.field):=by
 unfold rdE tCk
 rw[if_neg (by omega),zA7 h,if_pos h]
theorem zPC {kt:Nat→Int}{t:ByteArray}(hs:t.size≤60000)(h:(tL t).st.wrong=true):rdE kt t=some (7,(tL t).st.field):=by
 have u:(tB t).1=(tL t).st:=by unfold tB;rw[zH2 h]
 have j:(RS.on t).told.st=(tL t).st:=by rw[zBc,u,if_pos h]
 rw[zCQ hs (by rw[j];exact h),j]
theorem zPD {kt:Nat→Int}{t:ByteArray}(hs:t.size≤60000)(h:(tL t).st.wrong=false)(A:512<(tL t).cnt):rdE kt t=some (7,(tL t).st.next):=by
 have u:(tB t).1.field=(tL t).st.next:=zH0 h _ _
 cases hb:(tB t).1.wrong with
 |true=>
  have j:(RS.on t).told.st=(tB t).1:=by rw[zBc,if_pos hb]
  rw[zCQ hs (by rw[j];exact hb),j,u]
 |false=>
  have j:(RS.on t).told.st=(tB t).1.refuse:=by
   rw[zBc,hb,if_neg (by simp),if_pos A,zA7 (s:=(tB t).1.refuse) rfl]
  rw[zCQ hs (by rw[j];rfl),j]
  show some (7,(tB t).1.field)=_
  rw[u]
theorem zPE {kt:Nat→Int}{t:ByteArray}(hs:t.size≤60000)(A:(tL t).cnt≤512)(h:(tC t).1.wrong=true):rdE kt t=some (7,(tC t).1.field):=by
 cases hb:(tB t).1.wrong with
 |true=>
  have j:(RS.on t).told.st=(tB t).1:=by rw[zBc,if_pos hb]
  have u:(tC t).1=(tB t).1:=by unfold tC;rw[zA7 hb]
  rw[zCQ hs (by rw[j];exact hb),j,u]
 |false=>
  have j:(RS.on t).told.st=(tC t).1:=by
   rw[zBc,hb,if_neg (by simp),if_neg (by omega)];rfl
  rw[zCQ hs (by rw[j];exact h),j]
theorem zP2 {t:ByteArray}(j:(tL t).cnt≤512)(h:(tC t).1.wrong=false):(tB t).1.wrong=false∧(RS.on t).told.st=(tC t).1∧(RS.on t).told.root=(tA t).2∧(RS.on t).told.L=tL t∧(RS.on t).told.num=(tB t).2∧(RS.on t).told.lv=(tC t).2:=by
 have hb:(tB t).1.wrong=false:=zR h
 refine⟨hb,?_⟩
 rw[zBc,hb,if_neg (by simp),if_neg (by omega)]
 exact⟨rfl,rfl,rfl,rfl,rfl⟩
def rhT (t:ByteArray)(vE vL vB:Value):HD:=⟨(RS.on t).told.L.K,(RS.on t).told.L.M,(RS.on t).told.L.C,(RS.on t).told.L.V,(RS.on t).told.root,vE,(RS.on t).told.L.es,(RS.on t).told.num,vL,(RS.on t).told.L.cnt,pc (RS.on t).told.lv 32,(RS.on t).told.first,vB,(zX t).size /(RS.on t).told.L.C,pc (zX t) (RS.on t).told.L.C⟩
structure RRd (w:World)(t:ByteArray)(R:Option (Nat×Nat))(p v:Value)(w':World):Prop where
 bel:Below w.heap.size w w'
 bad:∀k q,R=some (k,q)→w'.ownsRow w.heap.size 121 2 v 1 (mkL [((k:Int),(q:Int))])
 good:R=none→v=.slice none 0 0∧∃c h vE vL vB st,p=.pointer (some ⟨h,0,none⟩)∧HI w c h st (rhT t vE vL vB) w'
theorem RRd.no {w:World}{t:ByteArray}{R:Option (Nat×Nat)}{k q:Nat}{p v:Value}{w':World}(e:R=some (k,q))(hb:Below w.heap.size w w')(u:w'.ownsRow w.heap.size 121 2 v 1 (mkL [((k:Int),(q:Int))])):RRd w t R p v w':=
 ⟨hb,fun k' A j=>by rw[e]at j;cases j;exact u,fun j=>by rw[e]at j;cases j⟩
theorem zN5 (kt:Nat→Int)(t:ByteArray)(w:World)(hG:Gr kt w)(ht:t.size≤140737488351232):Calls Tryz.prog 19 #[.string t] w fun e w'=>∃p v,e=.returned (.tuple #[p,v])∧RRd w t (rdE kt t) p v w':=by
 have HG:Hid _:=hG
 clear hG
 by_cases bH:60000<t.size
 ·have HE:Hid (rdE kt t=some (4,t.size)):=by show _=_;unfold rdE;rw[if_pos bH]
  have fK:(60000:Int)<(t.size:Int):=by omega
  go_enter Tryz.func19,Tryz.ntmps19
  go_wp2_with fail
  refine Calls.mono (zAN 4 t.size w w (Below.refl _ _)) ?_
  rintro e w1 ⟨v,rfl,ho,hB⟩
  obtain⟨va,vc,rfl⟩:=zA ho
  have HO:Hid _:=ho
  have HB:Hid _:=hB
  clear ho hB
  go_wp2_with fail
  go_ret2
  exact⟨_,_,rfl,RRd.no HE.out HB.out HO.out⟩
 ·have fK:¬(60000:Int)<(t.size:Int):=by omega
  obtain⟨s1,bC⟩:∃x,(RS.on t).word ⟨#[86,79,76,49]⟩=x:=⟨_,rfl⟩
  obtain⟨s2,bD⟩:∃x,(s1.bytes 32).1=x:=⟨_,rfl⟩
  obtain⟨root,aJ⟩:∃x,(s1.bytes 32).2=x:=⟨_,rfl⟩
  obtain⟨s3,c9⟩:∃x,s2.word ⟨#[86,76,84,49]⟩=x:=⟨_,rfl⟩
  obtain⟨s4,cA⟩:∃x,(s3.num 1 255).1=x:=⟨_,rfl⟩
  obtain⟨K,hK⟩:∃x,(s3.num 1 255).2=x:=⟨_,rfl⟩
  obtain⟨s5,cB⟩:∃x,(s4.num 0 (255-(K:Int))).1=x:=⟨_,rfl⟩
  obtain⟨M,hM⟩:∃x,(s4.num 0 (255-(K:Int))).2=x:=⟨_,rfl⟩
  obtain⟨s6,cC⟩:∃x,(s5.num 1 64).1=x:=⟨_,rfl⟩
  obtain⟨C,hC⟩:∃x,(s5.num 1 64).2=x:=⟨_,rfl⟩
  obtain⟨s7,cD⟩:∃x,(s6.num 1 16).1=x:=⟨_,rfl⟩
  obtain⟨V,hV⟩:∃x,(s6.num 1 16).2=x:=⟨_,rfl⟩
  obtain⟨F,cF⟩:∃x,(zEc s7).1=x:=⟨_,rfl⟩
  obtain⟨es,aH⟩:∃x,(zEc s7).2=x:=⟨_,rfl⟩
  have hA:tA t=(s2,root):=by unfold tA;rw[bC,←bD,←aJ]
  have hL:tL t=⟨F,K,M,C,V,es⟩:=by
   unfold tL
   rw[hA]
   show s2.list=_
   unfold RS.list
   simp only[]
   rw[c9,cA,hK,cB,hM,cC,hC,cD,hV,←cF,←aH]
   rfl
  obtain⟨cnt,R⟩:∃x,(tL t).cnt=x:=⟨_,rfl⟩
  have aG:nst (K*C) (zM es)*(K+M)=cnt:=by rw[←R,hL];rfl
  obtain⟨J,bE⟩:∃x,(F.num 0 ((V:Int)-1)).1=x:=⟨_,rfl⟩
  obtain⟨num,b0⟩:∃x,(F.num 0 ((V:Int)-1)).2=x:=⟨_,rfl⟩
  have hB:tB t=(J,num):=by unfold tB;rw[hL];show F.num 0 ((V:Int)-1)=_;rw[←bE,←b0]
  obtain⟨u,U⟩:∃x,(J.bytes (cnt*32)).1=x:=⟨_,rfl⟩
  obtain⟨lv,aZ⟩:∃x,(J.bytes (cnt*32)).2=x:=⟨_,rfl⟩
  have aW:tC t=(u,lv):=by unfold tC;rw[hB,R,←U,←aZ]
  have HK:Hid (K≤255):=by show K≤255;rw[←hK];exact zAn s3 1 255
  have cR:Hid (F.wrong=false→1≤K∧K+M≤255∧1≤C∧C≤64∧1≤V∧V≤16∧es.length≤16∧zM es≤4096∧∀x∈es,x.1.size≤255):=by
   intro h8
   have W:(tL t).st.wrong=false:=by rw[hL];exact h8
   have h2:=zCK W
   have h3:=zDG (tA t).1
   have h4:=zDH (tA t).1
   have e:(tA t).1.list=⟨F,K,M,C,V,es⟩:=hL
   rw[e]at h2 h3 h4
   refine⟨h2.2.1,h2.2.2.1,h2.2.2.2.1,h2.2.2.2.2.1,h2.2.2.2.2.2.1,h2.2.2.2.2.2.2,h3,h4,?_⟩
   rw[←aH]
   exact zEk _ _ _ _ _ (by simp)
  have dX:Hid (F.wrong=true→rdE kt t=some (7,F.field)):=fun h8=>by
   have:=zPC (kt:=kt) (t:=t) (by omega) (by rw[hL];exact h8)
   rw[hL]at this;exact this
  have dY:Hid (F.wrong=false→512<cnt→rdE kt t=some (7,F.next)):=fun h8 hc=>by
   have:=zPD (kt:=kt) (t:=t) (by omega) (by rw[hL];exact h8) (by rw[R];exact hc)
   rw[hL]at this;exact this
  have dZ:Hid (cnt≤512→u.wrong=true→rdE kt t=some (7,u.field)):=fun hc aB=>by
   have:=zPE (kt:=kt) (t:=t) (by omega) (by rw[R];exact hc) (by rw[aW];exact aB)
   rw[aW]at this;exact this
  have f0:Hid (cnt≤512→u.wrong=false→J.wrong=false∧(RS.on t).told.st=u∧(RS.on t).told.root=root∧(RS.on t).told.L=⟨F,K,M,C,V,es⟩∧(RS.on t).told.num=num∧(RS.on t).told.lv=lv):=fun hc aB=>by
   have:=zP2 (t:=t) (by rw[R];exact hc) (by rw[aW];exact aB)
   rw[hL,hB,aW,hA]at this;exact this
  have C1:Hid (∀X c,CR c (RS.on t) X→Calls Tryz.prog 45 #[.pointer (some ⟨c,0,none⟩),.string ⟨#[86,79,76,49]⟩] X fun e w'=>e=.returned (.tuple #[])∧zCn c s1 X w'):=fun X c h=>by rw[←bC];exact zND c _ _ X h (by decide)
  have C2:Hid (∀X c,CR c s1 X→Calls Tryz.prog 46 #[.pointer (some ⟨c,0,none⟩),.int .i64 32] X fun e w'=>e=.returned (.string root)∧zCn c s2 X w'):=fun X c h=>by rw[←bD,←aJ];exact zHI c _ 32 X h (by decide)
  have C3:Hid (∀X c,CR c s2 X→Calls Tryz.prog 45 #[.pointer (some ⟨c,0,none⟩),.string ⟨#[86,76,84,49]⟩] X fun e w'=>e=.returned (.tuple #[])∧zCn c s3 X w'):=fun X c h=>by rw[←c9];exact zND c _ _ X h (by decide)
  have C4:Hid (∀X c,CR c s3 X→Calls Tryz.prog 47 #[.pointer (some ⟨c,0,none⟩),.int .i64 1,.int .i64 255] X fun e w'=>e=.returned (.int .i64 K)∧zCn c s4 X w'):=fun X c h=>by rw[←cA,←hK];exact zKa c _ 1 255 X h (by decide)
  have C5:Hid (∀X c,CR c s4 X→Calls Tryz.prog 47 #[.pointer (some ⟨c,0,none⟩),.int .i64 0,.int .i64 (255-(K:Int))] X fun e w'=>e=.returned (.int .i64 M)∧zCn c s5 X w'):=fun X c h=>by rw[←cB,←hM];exact zKa c _ 0 _ X h (by omega)
  have C6:Hid (∀X c,CR c s5 X→Calls Tryz.prog 47 #[.pointer (some ⟨c,0,none⟩),.int .i64 1,.int .i64 64] X fun e w'=>e=.returned (.int .i64 C)∧zCn c s6 X w'):=fun X c h=>by rw[←cC,←hC];exact zKa c _ 1 64 X h (by decide)
  have C7:Hid (∀X c,CR c s6 X→Calls Tryz.prog 47 #[.pointer (some ⟨c,0,none⟩),.int .i64 1,.int .i64 16] X fun e w'=>e=.returned (.int .i64 V)∧zCn c s7 X w'):=fun X c h=>by rw[←cD,←hV];exact zKa c _ 1 16 X h (by decide)
  have C8:Hid (∀X c,CR c s7 X→Calls Tryz.prog 48 #[.pointer (some ⟨c,0,none⟩)] X fun e w'=>∃v a6,e=.returned v∧w'.ownsRow X.heap.size 131 2 v a6.length (enV a6)∧zCn c F X w'∧a6.length≤16∧(F.wrong=false→a6=es)):=fun X c h=>by rw[←cF,←aH];exact zJM c s7 X h
  have C9:Hid (∀X c,CR c F X→Calls Tryz.prog 47 #[.pointer (some ⟨c,0,none⟩),.int .i64 0,.int .i64 ((V:Int)-1)] X fun e w'=>e=.returned (.int .i64 num)∧zCn c J X w'):=fun X c h=>by
   rw[←bE,←b0]
   refine zKa c _ 0 _ X h ?_
   have:V≤16:=by rw[←hV];exact zAn s6 1 16
   omega
  have cN:Hid (∀X c,CR c J X→cnt≤512→Calls Tryz.prog 46 #[.pointer (some ⟨c,0,none⟩),.int .i64 (cnt*32:Nat)] X fun e w'=>e=.returned (.string lv)∧zCn c u X w'):=fun X c h hc=>by rw[←U,←aZ];exact zHI c _ _ X h (by omega)
  have gG:Hid (V≤16):=by show V≤16;rw[←hV];exact zAn s6 1 16
  have f3:Hid (u.wrong=false→lv.size=cnt*32∧u.text=t∧lv=t.extract J.next (J.next+cnt*32)∧cnt*32≤t.size-J.next∧J.text=t):=by
   intro aB
   have h9:J.wrong=false:=by rw[←U]at aB;exact zR aB
   have A:(J.bytes (cnt*32)).1.wrong=false:=by rw[U];exact aB
   have bG:J.text=t:=by
    have W:Adv (RS.on t) J:=by
     have a1:Adv (RS.on t) s2:=by rw[←bD,←bC];exact (zAR _ _).trans (zZ _ _)
     have a2:Adv s2 F:=by
      have:=zAC s2
      have e:s2.list=⟨F,K,M,C,V,es⟩:=by have h:=hL;unfold tL at h;rw[hA]at h;exact h
      rw[e]at this;exact this
     rw[←bE]
     exact (a1.trans a2).trans (zk _ _ _)
    exact W.1
   refine⟨by rw[←aZ];exact zBI A,?_,?_,?_,bG⟩
   ·rw[←U,(zZ J _).1,bG]
   ·rw[←aZ,←bG]
    unfold RS.bytes at A ⊢
    rw[h9]at A ⊢
    simp only[Bool.false_eq_true,if_false]at A ⊢
    split at A
    ·cases A
    ·rename_i hn
     rw[if_neg hn]
   ·unfold RS.bytes at A
    rw[h9]at A
    simp only[Bool.false_eq_true,if_false]at A
    split at A
    ·cases A
    ·rename_i hn
     rw[bG]at hn
     omega
  clear bC bD aJ c9 cA hK cB hM cC hC cD hV cF aH hA hL R bE b0 hB U aZ aW
  go_enter Tryz.func19,Tryz.ntmps19
  go_wp2_with fail
  obtain⟨X0,bU⟩:∃X,(w.alloc (.cells #[.string t,.int .i64 0,.bool false] 124)).alloc (.cells #[.int .i64 0,.int .i64 0,.int .i64 0,.int .i64 0,.string ⟨#[]⟩,.slice none 0 0,.int .i64 0,.slice none 0 0,.int .i64 0,.slice none 0 0] 84)=X:=⟨_,rfl⟩
  have H0:Hid (HI w w.heap.size (w.heap.size+1) (RS.on t) ⟨0,0,0,0,⟨#[]⟩,.slice none 0 0,[],0,.slice none 0 0,0,pc lv 32,0,.slice none 0 0,0,pc (zX t) C⟩ X0):=by
   show HI _ _ _ _ _ _
   rw[←bU]
   refine⟨⟨?_,Nat.zero_le _,by show t.size≤_;omega⟩,?_,⟨rfl,.inl ⟨rfl,rfl⟩⟩,⟨rfl,.inl ⟨rfl,rfl⟩⟩,⟨rfl,.inl ⟨rfl,rfl⟩⟩,fun j W=>(by cases W),?_,Nat.le_refl _,Nat.le_succ _⟩
   ·rw[heap_alloc_old _ _ (by simp),heap_alloc_new];rfl
   ·have:=heap_alloc_new (w.alloc (.cells #[.string t,.int .i64 0,.bool false] 124)) (.cells #[.int .i64 0,.int .i64 0,.int .i64 0,.int .i64 0,.string ⟨#[]⟩,.slice none 0 0,.int .i64 0,.slice none 0 0,.int .i64 0,.slice none 0 0] 84)
    rw[show (w.alloc (.cells #[.string t,.int .i64 0,.bool false] 124)).heap.size=w.heap.size+1 by simp]at this
    exact this
   ·exact ((Below.refl _ _).alloc (Nat.le_refl _) _).alloc (by simp) _
  rw[bU]
  clear bU
  refine Calls.mono (C1.out _ _ H0.out.cur) ?_
  rintro e X1 ⟨rfl,D⟩
  have H1:Hid _:=H0.out.go D
  clear D H0 C1
  go_wp2_with fail
  refine Calls.mono (C2.out _ _ H1.out.cur) ?_
  rintro e X2 ⟨rfl,D⟩
  have H2:Hid _:=H1.out.go D
  clear D H1 C2
  have ck:X2.cell? ⟨w.heap.size+1,4,none⟩=some (.string ⟨#[]⟩):=cell_of_row _ _ _ _ 84 _ H2.out.row
  have fk:=frozen_of_row X2 (w.heap.size+1) 4 _ 84 H2.out.row
  have b4:Hid _:=H2.out.set (d':=⟨0,0,0,0,root,.slice none 0 0,[],0,.slice none 0 0,0,pc lv 32,0,.slice none 0 0,0,pc (zX t) C⟩) 4 (.string root) rfl rfl rfl rfl rfl rfl rfl rfl rfl
  go_wp2_with fail
  obtain⟨Y2,N⟩:∃Y,X2.setCell ⟨w.heap.size+1,4,none⟩ (.string root)=Y:=⟨_,rfl⟩
  rw[N]at b4 ⊢
  clear N ck fk H2
  refine Calls.mono (C3.out _ _ b4.out.cur) ?_
  rintro e X3 ⟨rfl,D⟩
  have H3:Hid _:=b4.out.go D
  clear D b4 C3
  go_wp2_with fail
  refine Calls.mono (C4.out _ _ H3.out.cur) ?_
  rintro e X4 ⟨rfl,D⟩
  have H4:Hid _:=H3.out.go D
  clear D H3 C4
  have u1:IntKind.i64.wrap (255-(K:Int))=255-(K:Int):=by have:=HK.out;rw[IntKind.wrap_i64];omega
  have ck:X4.cell? ⟨w.heap.size+1,0,none⟩=some (.int .i64 0):=cell_of_row _ _ _ _ 84 _ H4.out.row
  have fk:=frozen_of_row X4 (w.heap.size+1) 0 _ 84 H4.out.row
  have b5:Hid _:=H4.out.set (d':=⟨K,0,0,0,root,.slice none 0 0,[],0,.slice none 0 0,0,pc lv 32,0,.slice none 0 0,0,pc (zX t) C⟩) 0 (.int .i64 K) rfl rfl rfl rfl rfl rfl rfl rfl rfl
  go_wp2_with fail
  obtain⟨Y4,N⟩:∃Y,X4.setCell ⟨w.heap.size+1,0,none⟩ (.int .i64 K)=Y:=⟨_,rfl⟩
  rw[N]at b5 ⊢
  clear N ck fk H4
  refine Calls.mono (C5.out _ _ b5.out.cur) ?_
  rintro e X5 ⟨rfl,D⟩
  have H5:Hid _:=b5.out.go D
  clear D b5 C5
  have ck:X5.cell? ⟨w.heap.size+1,1,none⟩=some (.int .i64 0):=cell_of_row _ _ _ _ 84 _ H5.out.row
  have fk:=frozen_of_row X5 (w.heap.size+1) 1 _ 84 H5.out.row
  have b6:Hid _:=H5.out.set (d':=⟨K,M,0,0,root,.slice none 0 0,[],0,.slice none 0 0,0,pc lv 32,0,.slice none 0 0,0,pc (zX t) C⟩) 1 (.int .i64 M) rfl rfl rfl rfl rfl rfl rfl rfl rfl
  go_wp2_with fail
  obtain⟨Y5,N⟩:∃Y,X5.setCell ⟨w.heap.size+1,1,none⟩ (.int .i64 M)=Y:=⟨_,rfl⟩
  rw[N]at b6 ⊢
  clear N ck fk H5
  refine Calls.mono (C6.out _ _ b6.out.cur) ?_
  rintro e X6 ⟨rfl,D⟩
  have H6:Hid _:=b6.out.go D
  clear D b6 C6
  have ck:X6.cell? ⟨w.heap.size+1,2,none⟩=some (.int .i64 0):=cell_of_row _ _ _ _ 84 _ H6.out.row
  have fk:=frozen_of_row X6 (w.heap.size+1) 2 _ 84 H6.out.row
  have b7:Hid _:=H6.out.set (d':=⟨K,M,C,0,root,.slice none 0 0,[],0,.slice none 0 0,0,pc lv 32,0,.slice none 0 0,0,pc (zX t) C⟩) 2 (.int .i64 C) rfl rfl rfl rfl rfl rfl rfl rfl rfl
  go_wp2_with fail
  obtain⟨Y6,N⟩:∃Y,X6.setCell ⟨w.heap.size+1,2,none⟩ (.int .i64 C)=Y:=⟨_,rfl⟩
  rw[N]at b7 ⊢
  clear N ck fk H6
  refine Calls.mono (C7.out _ _ b7.out.cur) ?_
  rintro e X7 ⟨rfl,D⟩
  have H7:Hid _:=b7.out.go D
  clear D b7 C7
  have ck:X7.cell? ⟨w.heap.size+1,3,none⟩=some (.int .i64 0):=cell_of_row _ _ _ _ 84 _ H7.out.row
  have fk:=frozen_of_row X7 (w.heap.size+1) 3 _ 84 H7.out.row
  have aT:Hid _:=H7.out.set (d':=⟨K,M,C,V,root,.slice none 0 0,[],0,.slice none 0 0,0,pc lv 32,0,.slice none 0 0,0,pc (zX t) C⟩) 3 (.int .i64 V) rfl rfl rfl rfl rfl rfl rfl rfl rfl
  go_wp2_with fail
  obtain⟨Y7,N⟩:∃Y,X7.setCell ⟨w.heap.size+1,3,none⟩ (.int .i64 V)=Y:=⟨_,rfl⟩
  rw[N]at aT ⊢
  clear N ck fk H7
  refine Calls.mono (C8.out _ _ aT.out.cur) ?_
  rintro e X8 ⟨vE,a6,rfl,ho,D,i2,aH⟩
  obtain⟨aE,cE,rfl⟩:=zA ho
  have H8:Hid _:=aT.out.go D
  have cT:Hid _:=zP ho aT.out.bel.size
  have cQ:Hid _:=aH
  clear D aH ho aT C8 u1
  have ck:X8.cell? ⟨w.heap.size+1,5,none⟩=some (.slice none 0 0):=cell_of_row _ _ _ _ 84 _ H8.out.row
  have fk:=frozen_of_row X8 (w.heap.size+1) 5 _ 84 H8.out.row
  have aA:Hid (HI w w.heap.size (w.heap.size+1) F ⟨K,M,C,V,root,(.slice aE a6.length cE),a6,0,.slice none 0 0,0,pc lv 32,0,.slice none 0 0,0,pc (zX t) C⟩ _):=H8.out.ents _ a6 cT.out
  have g2:X8.cell? ⟨w.heap.size,2,none⟩=some (.bool F.wrong):=cell_of_row _ _ _ _ 124 _ H8.out.cur.row
  have g1:X8.cell? ⟨w.heap.size,1,none⟩=some (.int .i64 (atC F:Nat)):=cell_of_row _ _ _ _ 124 _ H8.out.cur.row
  cases hw8:F.wrong with
  |true=>
   have bV:atC F=F.field:=by unfold atC;rw[hw8];rfl
   rw[bV]at g1
   rw[hw8]at g2
   go_wp2_with fail
   refine Calls.mono (zAN 7 F.field w _ aA.out.bel) ?_
   rintro e w1 ⟨v,rfl,ho,hB⟩
   obtain⟨va,vc,rfl⟩:=zA ho
   have HO:Hid _:=ho
   have HB:Hid _:=hB
   clear ho hB
   go_wp2_with fail
   go_ret2
   exact⟨_,_,rfl,RRd.no (dX.out hw8) HB.out HO.out⟩
  |false=>
   have fL:=(cQ.out hw8).symm
   subst fL
   rw[hw8]at g2
   obtain⟨fN,fO,d4,bJ,fW,dB,fT,bM,fU⟩:=cR.out hw8
   have f4:Hid _:=fU
   have dD:0<K*C:=Nat.mul_pos fN d4
   have fZ:K*C≤255*64:=Nat.mul_le_mul (by omega) bJ
   go_wp2_with fail
   obtain⟨Y8,N⟩:∃Y,X8.setCell ⟨w.heap.size+1,5,none⟩ (.slice aE es.length cE)=Y:=⟨_,rfl⟩
   rw[N]at aA ⊢
   clear N ck fk H8 g1 g2 cT cQ
   have d5:w.heap.size+1<Y8.heap.size:=(Array.getElem?_eq_some_iff.1 aA.out.row).1
   have HV:Hid (∀w2:World,Below Y8.heap.size Y8 w2→w2.cell? ⟨w.heap.size+1,0,none⟩=some (.int .i64 K)∧w2.cell? ⟨w.heap.size+1,1,none⟩=some (.int .i64 M)∧w2.cell? ⟨w.heap.size+1,2,none⟩=some (.int .i64 C)∧w2.cell? ⟨w.heap.size+1,3,none⟩=some (.int .i64 V)∧w2.cell? ⟨w.heap.size+1,5,none⟩=some (.slice aE es.length cE)):=fun X hX=>by
    have W:=(hX.block _ d5).trans aA.out.row
    exact⟨cell_of_row _ _ _ _ 84 _ W,cell_of_row _ _ _ _ 84 _ W,cell_of_row _ _ _ _ 84 _ W,cell_of_row _ _ _ _ 84 _ W,cell_of_row _ _ _ _ 84 _ W⟩
   have bO:Hid (∀X:World,Below Y8.heap.size Y8 X→Calls Tryz.prog 50 #[.slice aE es.length cE] X fun e w'=>e=.returned (.int .i64 (zM es))∧Below X.heap.size X w'):=fun X hX=>by
    refine Calls.mono (zIJ w.heap.size es.length cE aE es X rfl (zD aA.out.oE (fun q hq=>hX.block q (zG aA.out.oE q hq))) (fun i=>Nat.le_trans (zQ es i) (by omega)) (by omega)) ?_
    rintro e w' ⟨rfl,rfl⟩
    exact⟨rfl,Below.refl _ _⟩
   have bP:Hid (∀X:World,Below Y8.heap.size Y8 X→Calls Tryz.prog 49 #[.agg #[.int .i64 K,.int .i64 M,.int .i64 C,.int .i64 V],.int .i64 (zM es)] X fun e w'=>e=.returned (.int .i64 cnt)∧Below X.heap.size X w'):=fun X _=>by
    rw[←aG]
    exact zE6 K M C V (zM es) (K*C) X rfl dD (by omega) (by omega) (by omega) (by omega)
   obtain⟨v0,v1,v2,v3,v5⟩:=HV.out Y8 (Below.refl _ _)
   obtain⟨ln,bY⟩:∃x,zM es=x:=⟨_,rfl⟩
   rw[bY]at bO bP
   have f2:Hid _:=bY
   clear dD fZ bY
   go_region_held3 (fun w2=>w2.cell? ⟨w.heap.size+1,0,none⟩=some (.int .i64 K)∧w2.cell? ⟨w.heap.size+1,1,none⟩=some (.int .i64 M)∧w2.cell? ⟨w.heap.size+1,2,none⟩=some (.int .i64 C)∧w2.cell? ⟨w.heap.size+1,3,none⟩=some (.int .i64 V)∧w2.cell? ⟨w.heap.size+1,5,none⟩=some (.slice aE es.length cE)) (go_keep) (first|(go_at_call 50;refine Calls.mono (bO.out _ (by first|exact Below.refl _ _|exact (Below.refl _ _).drew)) ?_;rintro e w7 ⟨rfl,bW⟩;have aV:Below Y8.heap.size Y8 w7:=(by first|exact bW|exact ((Below.refl _ _).drew).trans bW);obtain⟨x0,x1,x2,x3,x5⟩:=HV.out w7 aV)|(go_at_call 49;refine Calls.mono (bP.out _ aV) ?_;rintro e w8 ⟨rfl,hb8⟩;have bS:Below Y8.heap.size Y8 w8:=(aV.trans (hb8.mono aV.size));obtain⟨y0,y1,y2,y3,y5⟩:=HV.out w8 bS))
   have H9:Hid _:=aA.out.low bS
   clear v0 v1 v2 v3 v5 x0 x1 x2 x3 x5 y0 y1 y2 y5 bW aV hb8 bS bO bP HV d5
   have g1:w8.cell? ⟨w.heap.size,1,none⟩=some (.int .i64 (atC F:Nat)):=cell_of_row _ _ _ _ 124 _ H9.out.cur.row
   rw[zBf hw8]at g1
   by_cases fJ:512<cnt
   ·have d3:(512:Int)<(cnt:Int):=by omega
    go_wp2_with fail
    refine Calls.mono (zAN 7 F.next w _ H9.out.bel) ?_
    rintro e w1 ⟨v,rfl,ho,hB⟩
    obtain⟨va,vc,rfl⟩:=zA ho
    have HO:Hid _:=ho
    have HB:Hid _:=hB
    clear ho hB
    go_wp2_with fail
    go_ret2
    exact⟨_,_,rfl,RRd.no (dY.out hw8 fJ) HB.out HO.out⟩
   ·have d3:¬(512:Int)<(cnt:Int):=by omega
    have u1:IntKind.i64.wrap ((V:Int)-1)=(V:Int)-1:=by rw[IntKind.wrap_i64];omega
    have u2:IntKind.i64.wrap (32*(cnt:Int))=((cnt*32:Nat):Int):=by rw[IntKind.wrap_i64];omega
    clear g1
    go_wp2_with fail
    refine Calls.mono (C9.out _ _ H9.out.cur) ?_
    rintro e X9 ⟨rfl,D⟩
    have aO:Hid _:=H9.out.go D
    clear D H9 y3 u1
    have ck:X9.cell? ⟨w.heap.size+1,6,none⟩=some (.int .i64 0):=cell_of_row _ _ _ _ 84 _ aO.out.row
    have fk:=frozen_of_row X9 (w.heap.size+1) 6 _ 84 aO.out.row
    have g1:X9.cell? ⟨w.heap.size,1,none⟩=some (.int .i64 (atC J:Nat)):=cell_of_row _ _ _ _ 124 _ aO.out.cur.row
    have aK:Hid _:=aO.out.set (d':=⟨K,M,C,V,root,(.slice aE es.length cE),es,num,.slice none 0 0,0,pc lv 32,0,.slice none 0 0,0,pc (zX t) C⟩) 6 (.int .i64 num) rfl rfl rfl rfl rfl rfl rfl rfl rfl
    obtain⟨pl,bZ⟩:∃x,atC J=x:=⟨_,rfl⟩
    rw[bZ]at g1
    have f6:Hid _:=bZ
    have cS:Hid (J.next≤J.text.size):=aO.out.cur.nt
    clear bZ
    obtain⟨cY,aM⟩:∃x,cnt*32=x:=⟨_,rfl⟩
    rw[aM]at u2 cN
    have cP:Hid _:=aM
    clear aM
    go_wp2_with fail
    obtain⟨Y9,N⟩:∃Y,X9.setCell ⟨w.heap.size+1,6,none⟩ (.int .i64 num)=Y:=⟨_,rfl⟩
    rw[N]at aK ⊢
    clear N ck fk aO g1
    refine Calls.mono (cN.out _ _ aK.out.cur (by omega)) ?_
    rintro e cV ⟨rfl,D⟩
    have b3:Hid _:=aK.out.go D
    clear D aK
    have g2:cV.cell? ⟨w.heap.size,2,none⟩=some (.bool u.wrong):=cell_of_row _ _ _ _ 124 _ b3.out.cur.row
    have g1:cV.cell? ⟨w.heap.size,1,none⟩=some (.int .i64 (atC u:Nat)):=cell_of_row _ _ _ _ 124 _ b3.out.cur.row
    cases hw10:u.wrong with
    |true=>
     have bV:atC u=u.field:=by unfold atC;rw[hw10];rfl
     rw[bV]at g1
     rw[hw10]at g2
     go_wp2_with fail
     refine Calls.mono (zAN 7 u.field w _ b3.out.bel) ?_
     rintro e w1 ⟨v,rfl,ho,hB⟩
     obtain⟨va,vc,rfl⟩:=zA ho
     have HO:Hid _:=ho
     have HB:Hid _:=hB
     clear ho hB
     go_wp2_with fail
     go_ret2
     exact⟨_,_,rfl,RRd.no (dZ.out (by omega) hw10) HB.out HO.out⟩
    |false=>
     rw[hw10]at g2
     obtain⟨i3,cG,d7,fP,dA⟩:=f3.out hw10
     obtain⟨fY,aD,aQ,G,aF,aR⟩:=f0.out (by omega) hw10
     clear g1
     have HT:Hid _:=And.intro aD (And.intro aQ (And.intro G (And.intro aF aR)))
     have d9:pl=J.next:=by rw[←f6.out,zBf fY]
     have aM:=cP.out
     have gP:J.next≤t.size:=by have W:=cS.out;rw[dA]at W;exact W
     have i4:pl+cY≤t.size:=by omega
     have gO:(lv.size:Int)=(cY:Int):=by omega
     have f5:Hid (∀i,i<cnt→t.extract (pl+32*i) (pl+32*i+32)=pc lv 32 i):=fun i hi=>by
      rw[pc,d7,←d9,ByteArray.extract_extract,Nat.succ_mul]
      congr 1<;>omega
     clear aD aQ G aF aR d7 fP d9
     go_wp2_with fail
     go_loopw [9] (fun iv wr=>∃(i:Nat) (vL:Value),i≤cnt∧iv=.int .i64 i∧HI w w.heap.size (w.heap.size+1) u ⟨K,M,C,V,root,(.slice aE es.length cE),es,num,vL,i,pc lv 32,0,.slice none 0 0,0,pc (zX t) C⟩ wr) (fun iv _=>cnt-(intOf iv).toNat)
     case atStart=>exact⟨0,_,Nat.zero_le _,rfl,b3.out⟩
     case round=>
      obtain⟨i,vL,hi,rfl,hI⟩:=hrel
      have b9:Hid _:=hI
      have aI:=hI.oL
      simp only[]at aI
      obtain⟨aL,cL,fX⟩:=zA aI
      subst fX
      clear hI aI g2
      by_cases fQ:i<cnt
      ·have d6:(i:Int)<(cnt:Int):=by omega
       have u3:IntKind.i64.wrap (32*(i:Int))=((32*i:Nat):Int):=by rw[IntKind.wrap_i64];omega
       obtain⟨Z,hZ⟩:∃Z,32*i=Z:=⟨_,rfl⟩
       rw[hZ]at u3
       obtain⟨P,hP⟩:∃P,pl+Z=P:=⟨_,rfl⟩
       have e0:32*(i:Int)=(Z:Int):=by omega
       have u4:IntKind.i64.wrap ((pl:Int)+(Z:Int))=(P:Int):=by rw[IntKind.wrap_i64];omega
       have e1:(pl:Int)+(Z:Int)=(P:Int):=by omega
       obtain⟨Q,hQ⟩:∃Q,P+32=Q:=⟨_,rfl⟩
       have u5:IntKind.i64.wrap ((P:Int)+32)=(Q:Int):=by rw[IntKind.wrap_i64];omega
       have e2:(P:Int)+32=(Q:Int):=by omega
       have uZ:IntKind.i64.wrap (Z:Int)=(Z:Int):=by rw[IntKind.wrap_i64];omega
       have uP:IntKind.i64.wrap (P:Int)=(P:Int):=by rw[IntKind.wrap_i64];omega
       have uQ:IntKind.i64.wrap (Q:Int)=(Q:Int):=by rw[IntKind.wrap_i64];omega
       have k1:(0:Int)≤(P:Int):=by omega
       have k2:(P:Int)≤(Q:Int):=by omega
       have k3:(Q:Int)≤(t.size:Int):=by omega
       have hx:t.extract P Q=pc lv 32 i:=by have:=f5.out i fQ;rw[hZ,hP,hQ]at this;exact this
       have a7:wr.cell? ⟨w.heap.size+1,7,none⟩=some (.slice aL i cL):=cell_of_row _ _ _ _ 84 _ b9.out.row
       obtain⟨v',w2,bL,bT,c8⟩:=b9.out.drew.leaf (t.extract P Q) (by show i≤_;omega) hx.symm
       have aI:=bT.oL
       simp only[]at aI
       obtain⟨fE,fF,dC⟩:=zA aI
       subst dC
       have cU:Hid ((Builtin.append_ #[22,22] 22 #[.slice aL i cL,.slice (some ⟨wr.heap.size,0,none⟩) 1 1]).run Tryz.prog (wr.alloc (.cells #[.string (t.extract P Q)] 9)).drew=.ok (.slice fE (i+1) fF) w2):=bL
       have f1:Hid _:=bT
       have iA:w2.cell? ⟨w.heap.size+1,7,none⟩=some (.slice aL i cL):=cell_of_row _ _ _ _ 84 _ c8
       have i0:=frozen_of_row w2 (w.heap.size+1) 7 _ 84 c8
       have i1:w.heap.size+1<wr.heap.size:=(Array.getElem?_eq_some_iff.1 b9.out.row).1
       clear bL bT c8 aI hx hZ hP hQ
       go_wp2_with fail
       go_region_law (refine zAF rfl (.tmp 128) (.tmp 140) 22 rfl _ _ _ (by simp[Act.eval]) (by simp[Act.eval]) _ cU.out ?_)
       all_goals
        go_wp2_with fail
        go_roundw
        case rel=>exact⟨i+1,_,by omega,by go_num,f1.out⟩
        case measure=>simp[intOf];omega
      ·have d6:¬(i:Int)<(cnt:Int):=by omega
       obtain rfl:i=cnt:=by omega
       obtain⟨aD,aQ,G,aF,aR⟩:=HT.out
       obtain⟨a8,aN⟩:∃x,(tCk t).1=x:=⟨_,rfl⟩
       obtain⟨ck,bX⟩:∃x,(tCk t).2=x:=⟨_,rfl⟩
       have hk:u.bytes 32=(a8,ck):=by rw[←aD,←aN,←bX];rfl
       have aY:(RS.on t).told.st.wrong=false:=by rw[aD];exact hw10
       have bK:(RS.on t).told.lst=zA1 K M C V es.length (nmE es) (lnE es):=by
        have W:=(zGB aY).2.1
        rw[G]at W
        apply ByteArray.ext
        apply Array.toList_inj.1
        rw[W,zD7]
       have d1:=zIm aY
       have hR:rdE kt t=if a8.wrong then some (7,u.next) else if ck=ofT kt (⟨#[3]⟩++u.text.extract 0 u.next) then (if root=ofT kt (⟨#[2]⟩++zA1 K M C V es.length (nmE es) (lnE es)++zAj (ofT kt) i (pc lv 32)) then (if ((num+1)*i/V-num*i/V)*C<(zX t).size then some (7,a8.next+((num+1)*i/V-num*i/V)*C) else none) else some (9,4)) else some (8,u.next):=by
        unfold rdE
        rw[if_neg bH,aN,bX]
        have fM:a8.wrong=true→a8.field=u.next:=fun h=>by
         have e:(u.bytes 32).1=a8:=by rw[hk]
         rw[←e]at h ⊢
         unfold RS.bytes at h ⊢
         rw[hw10]at h ⊢
         simp only[Bool.false_eq_true,if_false]at h ⊢
         split
         ·rfl
         ·rfl
        have bB:(RS.on t).told.L.cnt=i:=by rw[G];exact aG
        unfold zMo TT.size TT.first zAX
        rw[aD,aQ,aF,aR,bB,bK,G,cG]
        by_cases aU:a8.wrong=true
        ·rw[if_pos aU,if_pos aU,fM aU]
        ·rw[if_neg aU,if_neg aU]
       have fS:num<V:=by have:=d1.num;rw[aF,G]at this;exact this
       have bB:(RS.on t).told.L.cnt=i:=by rw[G];exact aG
       have fV:zM es≤4096:=by first|exact bM|(rw[f2.out];exact bM)
       have dW:Hid _:=zOr kt w w.heap.size (w.heap.size+1) i (num*i/V) ((num+1)*i/V) u a8 ck _ _ (zX t) _ wr (rdE kt t) b9.out HG.out hw10 hk rfl rfl (by rw[cG];unfold zX;rw[aN]) rfl (fun _=>rfl) rfl rfl hR fO d4 bJ fW dB fS (by omega) fT (zEA f4.out) (zD6 fV) (fun j _=>zO9 lv 32 j) (by rw[cG];omega)
       have f7:Hid (∀vB,rhT t (.slice aE es.length cE) (.slice aL i cL) vB=⟨K,M,C,V,root,.slice aE es.length cE,es,num,.slice aL i cL,i,pc lv 32,num*i/V,vB,(zX t).size /C,pc (zX t) C⟩):=fun vB=>by
        unfold rhT TT.first
        rw[bB,aQ,aF,aR,G]
       clear hR aD aQ G aF aR aN bX hk aY bK d1 bB
       go_wp2_with fail
       refine Calls.mono dW.out ?_
       rintro e w9 ⟨v,rfl,hC⟩
       have HC:Hid _:=hC
       clear hC
       go_wp2_with fail
       go_ret2
       refine⟨_,_,rfl,HC.out.bel,HC.out.bad,fun hn=> ?_⟩
       obtain⟨W,vB,g4,h2⟩:=HC.out.good hn
       exact⟨W,_,_,_,_,vB,g4,rfl,by rw[f7.out];exact h2⟩
end Go.Proofs.YtlopecgkiikdhaaGreatDoor
