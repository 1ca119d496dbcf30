import Derived.Test.YtlopecgkiikdhaaGreatDoorX19
namespace Go.Proofs.YtlopecgkiikdhaaGreatDoor
open Go.RowKit
set_option maxRecDepth 100000
set_option maxHeartbeats 4000000
theorem zIw:∀(j f q:Nat),j≤f→q<128 ^ (j+1)→(0<j→128 ^ j≤q)→(vb f q).length=j+1
 |0,f,q,_,h,_=>by rw[zGG f q (by simpa using h)];rfl
 |j+1,f,q,hf,h,h0=>by
  obtain⟨u,rfl⟩:∃u,f=u+1:=⟨f-1,by omega⟩
  have F:=h0 (by omega)
  have hp:128 ^ (j+1)=128*128 ^ j:=by rw[Nat.pow_succ,Nat.mul_comm]
  have D:128 ^ (j+1+1)=128*128 ^ (j+1):=by rw[Nat.pow_succ,Nat.mul_comm]
  have A:0<128 ^ j:=Nat.pow_pos (by omega)
  rw[vb,if_neg (by omega),List.length_cons,zIw j u (q/128) (by omega) (by omega) (fun _=>by omega)]
theorem zIx:∀(j f q:Nat),1≤j→j≤f→q<128 ^ j→(vb f q).length≤j
 |0,_,_,h,_,_=>by omega
 |j+1,f,q,_,hf,h=>by
  obtain⟨u,rfl⟩:∃u,f=u+1:=⟨f-1,by omega⟩
  have hp:128 ^ (j+1)=128*128 ^ j:=by rw[Nat.pow_succ,Nat.mul_comm]
  rw[vb]
  split
  ·simp
  ·rename_i hq
   cases j with
   |zero=>exact absurd (by simpa using h) hq
   |succ j=>
    rw[List.length_cons]
    have:=zIx (j+1) u (q/128) (by omega) (by omega) (by omega)
    omega
theorem zHJ {sum b j:Nat}(hs:sum<128 ^ j)(hb:b<128)(D:j≤4):(zm (sum+b*128 ^ j)).size=j+1↔¬(b=0∧0<j):=by
 have e:(zm (sum+b*128 ^ j)).size=(vb 4 (sum+b*128 ^ j)).length:=by
  unfold zm
  rw[strOfNums_size,List.length_map]
 rw[e]
 have G:128 ^ (j+1)=128*128 ^ j:=by rw[Nat.pow_succ,Nat.mul_comm]
 have F:(b+1)*128 ^ j≤128*128 ^ j:=Nat.mul_le_mul_right _ hb
 rw[Nat.add_mul,Nat.one_mul]at F
 constructor
 ·rintro h ⟨rfl,u⟩
  have:=zIx j 4 (sum+0*128 ^ j) (by omega) (by omega) (by omega)
  omega
 ·intro h
  apply zIw j 4 _ D (by omega)
  intro u
  have A:1≤b:=by omega
  have:=Nat.mul_le_mul_right (128 ^ j) A
  omega
theorem CR.g0 {c field next:Nat}{text:ByteArray}{b:Bool}{W:World}(h:CR c ⟨text,field,next,b⟩ W):W.cell? ⟨c,0,none⟩=some (.string text):=cell_of_row _ _ _ _ 124 _ h.row
theorem CR.g1 {c field next:Nat}{text:ByteArray}{W:World}(h:CR c ⟨text,field,next,false⟩ W):W.cell? ⟨c,1,none⟩=some (.int .i64 next):=cell_of_row _ _ _ _ 124 _ h.row
theorem CR.g2 {c field next:Nat}{text:ByteArray}{b:Bool}{W:World}(h:CR c ⟨text,field,next,b⟩ W):W.cell? ⟨c,2,none⟩=some (.bool b):=cell_of_row _ _ _ _ 124 _ h.row
theorem CR.fz {c k:Nat}{s:RS}{W:World}(h:CR c s W):W.frozen? ⟨c,k,none⟩=false:=frozen_of_row _ _ _ _ 124 h.row
theorem CR.bad {c:Nat}{text:ByteArray}{field next:Nat}{w W:World}(h:CR c ⟨text,field,next,false⟩ W)(hf:Fr (fun j=>j=c) w W):zCn c ⟨text,next,next,true⟩ w (W.setCell ⟨c,2,none⟩ (.bool true)):=
 ⟨⟨zH _ _ 2 _ _ _ _ h.row,h.nt,h.small⟩,hf.set (.inl rfl) _ _⟩
theorem zKa (c:Nat)(s:RS)(lo:Nat)(hi:Int)(w:World)(h:CR c s w)(hh:hi≤4294967295):
 Calls Tryz.prog 47 #[.pointer (some ⟨c,0,none⟩),.int .i64 lo,.int .i64 hi] w fun e w'=>e=.returned (.int .i64 (s.num lo hi).2)∧zCn c (s.num lo hi).1 w w':=by
 have HH:Hid (CR c s w):=h
 have aI:=h.nt
 have aL:=h.small
 have c2:w.cell? ⟨c,2,none⟩=some (.bool s.wrong):=cell_of_row _ _ _ _ 124 _ h.row
 clear h
 obtain⟨text,field,next,wrong⟩:=s
 cases wrong
 ·have b6:next≤text.size:=aI
  have aM:text.size≤1000000000:=aL
  clear aI aL
  have c1:=HH.out.g1
  obtain⟨t,ht⟩:∃t,text.extract next text.size=t:=⟨_,rfl⟩
  have aN:t.size=text.size-next:=by rw[←ht,ByteArray.size_extract];omega
  have HN:Hid (RS.num ⟨text,field,next,false⟩ lo hi=if (vrd t).2=0∨(vrd t).1<lo∨hi<((vrd t).1:Int) then (⟨text,next,next,true⟩,0) else (⟨text,next,next+(vrd t).2,false⟩,(vrd t).1)):=by
   show _=_
   unfold RS.num
   simp only[Bool.false_eq_true,if_false]
   rw[ht]
  have HG:Hid (∀j (h1:j<t.size) (h2:next+j<text.size),t[j]=text[next+j]):=by
   intro j h1 h2
   subst ht
   simp[ByteArray.getElem_extract]
  have HT:Hid _:=aN
  clear ht aN
  go_enter Tryz.func47,Tryz.ntmps47
  go_wp2_with fail
  clear c1 c2
  go_loopw [7,8,9,10,11] (fun nv uv iv _ _ wr=>∃j sum:Nat,j≤5∧next+j≤text.size∧nv=.int .i64 sum∧uv=.int .i64 (128 ^ j:Nat)∧iv=.int .i64 (next+j:Nat)∧sum<128 ^ j∧vrF t j sum (5-j)=vrd t∧Below w.heap.size w wr) (fun _ _ iv _ _ _=>next+5-(intOf iv).toNat)
  case atStart=>exact⟨0,0,by omega,by omega,rfl,rfl,rfl,by decide,rfl,Below.refl _ _⟩
  case round=>
   obtain⟨j,sum,hj,aA,rfl,rfl,rfl,hs,hv,hb⟩:=hrel
   have hC:=HH.out.below hb
   have g0:=hC.g0
   have g1:=hC.g1
   have HC:Hid (CR c ⟨text,field,next,false⟩ wr):=hC
   have HB:Hid (Below w.heap.size w wr):=hb
   clear hC hb
   have g2:=HC.out.g2
   have f1:=HC.out.fz (k:=1)
   have f2:=HC.out.fz (k:=2)
   by_cases aB:j<5∧next+j<text.size
   ·obtain⟨bF,D⟩:=aB
    have R:j<t.size:=by rw[HT.out];omega
    obtain⟨b,hb⟩:∃b:Nat,text[next+j].toNat=b:=⟨_,rfl⟩
    have F:b<256:=by rw[←hb];exact text[next+j].toNat_lt
    have hk:5-j=(5-(j+1))+1:=by omega
    rw[hk,vrF,dif_pos R,HG.out j R D,hb]at hv
    have J:=zPZ sum b j hs
    have U:=zOS (j+1) (by omega)
    have b1:=zOS j (by omega)
    have HD:Hid (b<128→((zm (sum+b%128*128 ^ j)).size=j+1↔¬(b=0∧0<j))):=by
     intro h1
     rw[Nat.mod_eq_of_lt h1]
     exact zHJ hs h1 (by omega)
    obtain⟨q,hq⟩:∃q,sum+b%128*128 ^ j=q:=⟨_,rfl⟩
    rw[hq]at J hv HD
    obtain⟨P,hP⟩:∃P:Nat,128 ^ j=P:=⟨_,rfl⟩
    have N:128 ^ (j+1)=P*128:=by rw[Nat.pow_succ,hP]
    rw[hP]at hq hs b1 ⊢
    have HQ:Hid ((128 ^ (j+1):Nat)=P*128):=N
    rw[N]at J U
    obtain⟨m,G⟩:∃m,next+j=m:=⟨_,rfl⟩
    have HM:Hid (next+j=m):=G
    have k1:((m:Nat):Int)<(text.size:Int):=by omega
    have k0:(0:Int)≤((m:Nat):Int):=by omega
    have k2:((m:Nat):Int)<(next:Int)+5:=by omega
    have u1:IntKind.i64.wrap ((next:Int)+5)=(next:Int)+5:=by rw[IntKind.wrap_i64];omega
    have aY:b%128*P≤34359738368:=by omega
    obtain⟨r,hr⟩:∃r,b%128*P=r:=⟨_,rfl⟩
    have e2:(b:Int)%128*(P:Int)=(r:Int):=by rw[←hr];simp
    rw[hr]at hq aY
    have e3:(sum:Int)+(r:Int)=(q:Int):=by omega
    have bG:m<text.size:=by omega
    have bE:text[m].toNat=b:=by subst G;exact hb
    have HV:Hid _:=hv
    have HS:Hid _:=J
    have bA:Hid _:=U
    have u2:IntKind.i64.wrap (r:Int)=(r:Int):=by rw[IntKind.wrap_i64];omega
    have u3:IntKind.i64.wrap (q:Int)=(q:Int):=by rw[IntKind.wrap_i64];omega
    have u4:IntKind.i64.wrap ((P:Int)*128)=(P:Int)*128:=by rw[IntKind.wrap_i64];omega
    rw[G]at aA ⊢
    by_cases hp:128≤b
    ·have b0:¬((b:Int)<128):=by omega
     clear hv J U hk hr hq hP N hb G R D hs
     go_wp2_with fail
     go_roundw
     case rel=>
      have hM:=HM.out
      exact⟨j+1,q,by omega,by omega,rfl,by rw[HQ.out];simp,by rw[show next+(j+1)=m+1 by omega];go_num,by rw[HQ.out];exact HS.out,by have:=HV.out;rw[if_pos hp]at this;exact this,HB.out⟩
     case measure=>simp[intOf];omega
    ·have b0:(b:Int)<128:=by omega
     have a1:Hid (∀W,Calls Tryz.prog 76 #[.int .i64 q] W fun e w'=>e=.returned (.string (zm q))∧Below W.heap.size W w'):=fun W=>zDa 4 q W (Nat.le_refl _) (by omega)
     have aO:=zO q
     have a4:=HD.out (by omega)
     have X:=hv
     rw[if_neg hp]at X
     have hM:=G
     by_cases u:lo≤q∧(q:Int)≤hi∧(zm q).size=j+1
     ·have aK:vrd t=(q,j+1):=by rw[←X,if_neg (by rintro (h|h);omega;exact a4.1 u.2.2 h)]
      have HE:Hid (RS.num ⟨text,field,next,false⟩ lo hi=(⟨text,next,m+1,false⟩,q)):=by
       show _=_
       rw[HN.out,aK,if_neg (by show ¬(j+1=0∨q<lo∨hi<(q:Int));omega),show m+1=next+(j+1) by omega]
      obtain⟨i1,i2,i3⟩:=u
      have x1:(q:Int)≥(lo:Int):=by omega
      have aU:Hid (m+1≤text.size):=by show _≤_;omega
      have x4:((((zm q).size:Nat):Int) == ((m:Nat):Int)+1-(next:Int))=true:=by rw[beq_iff_eq];omega
      obtain⟨vq,Z⟩:∃vq,zm q=vq:=⟨_,rfl⟩
      rw[Z]at a1 aO x4
      clear hv J U hk hr hq hP N hb G R D hs a4 X hM HD aK i1 i3 Z
      go_wp2_with fail
      go_at_call 76
      refine (a1.out _).mono ?_
      rintro e w2 ⟨rfl,F⟩
      have Q:=HB.out.trans (F.mono HB.out.size)
      have A:Hid _:=HC.out.below F
      have a7:Hid (Below w.heap.size w w2):=Q
      clear g0 g1 g2 f1 f2 F Q
      have g0:=A.out.g0
      have g1:=A.out.g1
      have g2:=A.out.g2
      have f1:=A.out.fz (k:=1)
      go_wp2_with fail
      go_ret
      rw[HE.out]
      exact⟨rfl,⟨zH _ _ 1 _ _ _ _ A.out.row,aU.out,aM⟩,(Fr.below (S:=fun j=>j=c) a7.out).set (.inl rfl) _ _⟩
     ·have HE:Hid (RS.num ⟨text,field,next,false⟩ lo hi=(⟨text,next,next,true⟩,0)):=by
       show _=_
       rw[HN.out,←X]
       split
       ·rfl
       ·rename_i hn
        rw[if_pos]
        show j+1=0∨q<lo∨hi<(q:Int)
        have aZ:(zm q).size=j+1:=a4.2 (fun h=>hn (.inr h))
        rcases Nat.lt_or_ge q lo with h|h
        ·exact .inr (.inl h)
        ·rcases Int.lt_or_le hi (q:Int) with h2|h2
         ·exact .inr (.inr h2)
         ·exact absurd ⟨h,h2,aZ⟩ u
      obtain⟨vq,Z⟩:∃vq,zm q=vq:=⟨_,rfl⟩
      rw[Z]at a1 aO u
      have a9:¬((q:Int)≥(lo:Int))∨((q:Int)≥(lo:Int)∧¬((q:Int)≤hi))∨((q:Int)≥(lo:Int)∧(q:Int)≤hi∧(((vq.size:Nat):Int) == ((m:Nat):Int)+1-(next:Int))=false):=by
       by_cases h1:lo≤q
       ·by_cases h2:(q:Int)≤hi
        ·refine .inr (.inr ⟨by omega,h2,?_⟩)
         rw[beq_eq_false_iff_ne]
         intro h3
         exact u ⟨h1,h2,by omega⟩
        ·exact .inr (.inl ⟨by omega,h2⟩)
       ·exact .inl (by omega)
      clear hv J U hk hr hq hP N hb G R D hs a4 X hM HD u Z
      go_wp2_with fail
      go_at_call 76
      refine (a1.out _).mono ?_
      rintro e w2 ⟨rfl,F⟩
      have Q:=HB.out.trans (F.mono HB.out.size)
      have A:Hid _:=HC.out.below F
      have a7:Hid (Below w.heap.size w w2):=Q
      clear g0 g1 g2 f1 f2 F Q
      have g0:=A.out.g0
      have g1:=A.out.g1
      have g2:=A.out.g2
      have f1:=A.out.fz (k:=1)
      have f2:=A.out.fz (k:=2)
      rcases a9 with x1|⟨x1,x2⟩|⟨x1,x2,x3⟩
      all_goals
       go_wp2_with fail
       go_ret
       rw[HE.out]
       exact⟨rfl,A.out.bad (Fr.below a7.out)⟩
   ·have HR:Hid (vrd t=(0,0)):=by
     show _=_
     rw[←hv]
     by_cases e5:j=5
     ·subst e5;rfl
     ·have hk:5-j=(5-(j+1))+1:=by omega
      rw[hk,vrF,dif_neg (by rw[HT.out];omega)]
    have HE:Hid (RS.num ⟨text,field,next,false⟩ lo hi=(⟨text,next,next,true⟩,0)):=by
     show _=_
     rw[HN.out,HR.out]
     simp
    clear hv
    by_cases D:next+j<text.size
    ·have k1:((next+j:Nat):Int)<(text.size:Int):=by omega
     have k2:¬((next+j:Nat):Int)<(next:Int)+5:=by omega
     have u1:IntKind.i64.wrap ((next:Int)+5)=(next:Int)+5:=by rw[IntKind.wrap_i64];omega
     obtain⟨m,G⟩:∃m,next+j=m:=⟨_,rfl⟩
     rw[G]at k1 k2 ⊢
     clear G aB D aA hs HN HT HG HR
     go_wp2_with fail
     go_ret
     rw[HE.out]
     exact⟨rfl,HC.out.bad (Fr.below HB.out)⟩
    ·have k1:¬((next+j:Nat):Int)<(text.size:Int):=by omega
     obtain⟨m,G⟩:∃m,next+j=m:=⟨_,rfl⟩
     rw[G]at k1 ⊢
     clear G aB D aA hs HN HT HG HR
     go_wp2_with fail
     go_ret
     rw[HE.out]
     exact⟨rfl,HC.out.bad (Fr.below HB.out)⟩
 ·have HE:Hid (RS.num ⟨text,field,next,true⟩ lo hi=(⟨text,field,next,true⟩,0)):=rfl
  go_enter Tryz.func47,Tryz.ntmps47
  go_wp2_with fail
  go_ret
  rw[HE.out]
  exact⟨rfl,⟨HH.out.row,HH.out.nt,HH.out.small⟩,Fr.refl _ _⟩
theorem zCB {s:RS}(h:s.wrong=true)(nm:ByteArray)(l:Int):(s.entry nm l).1=s:=by
 obtain⟨text,field,next,wrong⟩:=s
 cases h
 unfold RS.entry RS.num RS.bytes RS.refuse
 simp
theorem zCp:∀(k:Nat) (s:RS) (nm:ByteArray) (l:Int) (j:List (ByteArray×Nat)),s.wrong=true→(RS.ents k s nm l j).1=s
 |0,_,_,_,_,_=>rfl
 |k+1,s,nm,l,j,h=>by rw[RS.ents,zCp k _ _ _ _ (by rw[zCB h];exact h),zCB h]
theorem zBf {s:RS}(h:s.wrong=false):atC s=s.next:=by unfold atC;rw[h];rfl
theorem zEj {s:RS}{n:Nat}(h:(s.bytes n).1.wrong=false):(s.bytes n).1.field=s.next:=by
 have j:=zR h
 unfold RS.bytes at h ⊢
 rw[j]at h ⊢
 simp only[Bool.false_eq_true,if_false]at h ⊢
 split at h
 ·cases h
 ·rename_i hn
  rw[if_neg hn]
theorem zEK {s:RS}(h:s.wrong=true):s.refuse=s:=by
 obtain⟨text,field,next,wrong⟩:=s
 cases h
 rfl
theorem zL0 {a:ByteArray}(h:0<a.size):leT a ⟨#[]⟩=false:=by
 unfold leT
 have hl:0<a.toList.length:=by rw[ByteArray.toList_eq,Array.length_toList];exact h
 have e:(⟨#[]⟩:ByteArray).toList=[]:=by rw[ByteArray.toList_eq]
 rw[e]
 cases ha:a.toList with
 |nil=>rw[ha]at hl;simp at hl
 |cons x l=>simp[Op.bytesLess]
def zEc (s:RS):RS×List (ByteArray×Nat):=RS.ents (s.num 0 16).2 (s.num 0 16).1 ⟨#[]⟩ 4096 []
theorem zJM (c:Nat)(s:RS)(w:World)(h:CR c s w):
 Calls Tryz.prog 48 #[.pointer (some ⟨c,0,none⟩)] w fun e w'=>∃v es,e=.returned v∧w'.ownsRow w.heap.size 131 2 v es.length (enV es)∧zCn c (zEc s).1 w w'∧es.length≤16∧((zEc s).1.wrong=false→es=(zEc s).2):=by
 obtain⟨s5,bT⟩:∃x,(s.num 0 16).1=x:=⟨_,rfl⟩
 obtain⟨n,hn⟩:∃x,(s.num 0 16).2=x:=⟨_,rfl⟩
 obtain⟨T,hT⟩:∃T,RS.ents n s5 ⟨#[]⟩ 4096 []=T:=⟨_,rfl⟩
 have e:zEc s=T:=by unfold zEc;rw[bT,hn,hT]
 rw[e]
 have dS:n≤16:=by rw[←hn];exact zAn s 0 16
 have H0:Hid (Calls Tryz.prog 47 #[.pointer (some ⟨c,0,none⟩),.int .i64 0,.int .i64 16] w fun e w'=>e=.returned (.int .i64 n)∧zCn c s5 w w'):=by
  have:=zKa c s 0 16 w h (by decide)
  rw[bT,hn]at this
  exact this
 have HT:Hid _:=hT
 have dM:c<w.heap.size:=(Array.getElem?_eq_some_iff.1 h.row).1
 obtain⟨i0,bH,z0,z1,z2⟩:=info_parts zHb
 clear h bT hn hT e
 go_enter Tryz.func48,Tryz.ntmps48
 go_wp2_with fail
 refine Calls.mono H0.out ?_
 rintro e w0 ⟨rfl,hD⟩
 have bV:Hid _:=hD
 clear hD
 go_wp2_with fail
 go_loopw [4,5,6,7,8,9,10] (fun ov av iv _ _ _ _ wr=>∃(i:Nat) (oo:Value) (st:RS) (nm:ByteArray) (all:Nat) (D:List (ByteArray×Nat)),i≤n∧oo=ov∧av=.int .i64 all∧iv=.int .i64 i∧all≤4096∧D.length=i∧RS.ents (n-i) st nm (4096-(all:Int)) D=T∧(∀j,j+1=i→D[j]?.map Prod.fst=some nm)∧(i=0→nm=⟨#[]⟩)∧wr.ownsRow w.heap.size 131 2 oo i (enV D)∧CR c st wr∧Fr (fun j=>j=c) w wr) (fun _ _ iv _ _ _ _ _=>n-(intOf iv).toNat)
 case atStart=>exact⟨0,_,s5,⟨#[]⟩,0,[],by omega,rfl,rfl,rfl,by omega,rfl,HT.out,fun j hj=>by omega,fun _=>rfl,⟨rfl,.inl ⟨rfl,rfl⟩⟩,bV.out.1,bV.out.2⟩
 case round=>
  obtain⟨i,oo,st,nm,all,D,hi,rfl,rfl,rfl,dR,bG,b5,bJ,cD,ho,hI,hF⟩:=hrel
  have cT:Hid _:=cD
  clear cD
  obtain⟨ao,co,d3⟩:=zA ho
  subst d3
  have g2:wr.cell? ⟨c,2,none⟩=some (.bool st.wrong):=cell_of_row _ _ _ _ 124 _ hI.row
  have HO:Hid _:=ho
  have HF:Hid _:=hF
  have bW:Hid _:=b5
  have Q:Hid _:=bG
  have HI:Hid _:=hI
  have cU:Hid _:=bJ
  by_cases bA:i<n∧st.wrong=false
  ·obtain⟨bA,d5⟩:=bA
   rw[d5]at g2
   have dD:(i:Int)<(n:Int):=by omega
   have hk:n-i=(n-(i+1))+1:=by omega
   have aX:=b5
   rw[hk,RS.ents]at aX
   have bP:=zDA st nm (4096-(all:Int)) (by omega)
   obtain⟨aL,aZ⟩:∃x,(st.num 1 255).1=x:=⟨_,rfl⟩
   obtain⟨k1,b7⟩:∃x,(st.num 1 255).2=x:=⟨_,rfl⟩
   have d0:k1≤255:=by rw[←b7];exact zAn st 1 255
   obtain⟨a9,aN⟩:∃x,(aL.bytes k1).1=x:=⟨_,rfl⟩
   obtain⟨A,aY⟩:∃x,(aL.bytes k1).2=x:=⟨_,rfl⟩
   obtain⟨aC,bC⟩:∃x,(if leT A nm then a9.refuse else a9)=x:=⟨_,rfl⟩
   obtain⟨aI,bD⟩:∃x,(aC.num 0 (4096-(all:Int))).1=x:=⟨_,rfl⟩
   obtain⟨ln,b9⟩:∃x,(aC.num 0 (4096-(all:Int))).2=x:=⟨_,rfl⟩
   have ee:st.entry nm (4096-(all:Int))=(aI,A,ln):=by
    unfold RS.entry
    simp only[aZ,b7,aN,aY,bC,bD,b9]
   rw[ee]at aX bP
   have dC:(ln:Int)≤4096-(all:Int):=bP
   have aW:Hid _:=aX
   have H1:Hid (Calls Tryz.prog 47 #[.pointer (some ⟨c,0,none⟩),.int .i64 1,.int .i64 255] wr fun e w'=>e=.returned (.int .i64 k1)∧zCn c aL wr w'):=by
    have:=zKa c st 1 255 wr hI (by decide)
    rw[aZ,b7]at this
    exact this
   have H2:Hid (∀X,CR c aL X→Calls Tryz.prog 46 #[.pointer (some ⟨c,0,none⟩),.int .i64 k1] X fun e w'=>e=.returned (.string A)∧zCn c a9 X w'):=fun X hX=>by
    have:=zHI c aL k1 X hX (by omega)
    rw[aN,aY]at this
    exact this
   have H4:Hid (∀X,CR c aC X→Calls Tryz.prog 47 #[.pointer (some ⟨c,0,none⟩),.int .i64 0,.int .i64 (4096-(all:Int))] X fun e w'=>e=.returned (.int .i64 ln)∧zCn c aI X w'):=fun X hX=>by
    have:=zKa c aC 0 (4096-(all:Int)) X hX (by omega)
    rw[bD,b9]at this
    exact this
   have HK:Hid (a9.wrong=false→aL.wrong=false∧a9.field=aL.next∧0<A.size):=by
    intro h2
    rw[←aN]at h2
    have h1:=zR h2
    refine⟨h1,by rw[←aN];exact zEj h2,?_⟩
    rw[←aY,zBI h2,←b7]
    rw[←aZ]at h1
    exact (ze h1).2.1
   have b0:Hid _:=bC
   have d2:IntKind.i64.wrap (4096-(all:Int))=4096-(all:Int):=by rw[IntKind.wrap_i64];omega
   clear ho hI hF b5 bG aX hk aZ b7 aN aY bC bD b9 bJ ee bP
   go_wp2_with fail
   refine Calls.mono H1.out ?_
   rintro e G ⟨rfl,F⟩
   have g1:G.cell? ⟨c,1,none⟩=some (.int .i64 (atC aL:Nat)):=cell_of_row _ _ _ _ 124 _ F.1.row
   have b2:Hid _:=F
   obtain⟨a6,aT⟩:∃x,atC aL=x:=⟨_,rfl⟩
   rw[aT]at g1
   have bL:Hid _:=aT
   clear F g2 aT
   go_wp2_with fail
   refine Calls.mono (H2.out _ b2.out.1) ?_
   rintro e w2 ⟨rfl,aR⟩
   have U:w2.ownsRow w.heap.size 131 2 (.slice ao i co) i (enV D):=zD HO.out (fun q W=>by
    have bB:q≠c:=fun e=>by
     obtain⟨cur,hc⟩:=zB HO.out q W
     have h2:=HI.out.row
     rw[←e,hc]at h2;simp at h2
    have cH:=zG HO.out q W
    rw[aR.2.old q (Nat.lt_of_lt_of_le cH b2.out.2.size) bB,b2.out.2.old q cH bB])
   have bZ:Fr (fun j=>j=c) w w2:=(HF.out.trans' b2.out.2).trans' aR.2
   have aD:Hid (CR c a9 w2):=aR.1
   have R:Hid _:=U
   have aM:Hid _:=bZ
   have g2:w2.cell? ⟨c,2,none⟩=some (.bool a9.wrong):=cell_of_row _ _ _ _ 124 _ aR.1.row
   have f1:=aR.1.fz (k:=1)
   have f2:=aR.1.fz (k:=2)
   clear aR g1 U bZ b2
   cases hw2:a9.wrong with
   |true=>
    rw[hw2]at g2
    have e3:aC=a9:=by rw[←b0.out,zEK hw2];simp
    subst e3
    go_wp2_with fail
    obtain⟨X3,aB⟩:∃x,w2=x:=⟨_,rfl⟩
    have a7:=aD.out
    have a8:=aM.out
    have a1:=R.out
    rw[aB]at a7 a8 a1 ⊢
    clear aB g2 f1 f2 aD R aM
    have aE:Hid (CR c aC X3):=a7
    have aO:Hid (Fr (fun j=>j=c) w X3):=a8
    have a5:Hid (X3.ownsRow w.heap.size 131 2 (.slice ao i co) i (enV D)):=a1
    clear a7 a8 a1
    refine Calls.mono (H4.out _ aE.out) ?_
    rintro e G ⟨rfl,F⟩
    have bE:=F.2.size
    have N:Hid (G.ownsRow w.heap.size 131 2 (.slice ao i co) i (enV D)):=zD a5.out (fun q W=>F.2.old q (zG a5.out q W) (fun e=>by
     obtain⟨cur,hc⟩:=zB a5.out q W
     have h2:=aE.out.row
     rw[←e,hc]at h2;simp at h2))
    have J:Hid (CR c aI G):=F.1
    have Z:Hid (Fr (fun j=>j=c) w G):=aO.out.trans' F.2
    have aP:Hid (∀j u,[Value.string A,.int .i64 ln][j]? =some u→(G.alloc (.cells #[.string A,.int .i64 ln] 131)).cell? ((⟨G.heap.size,0,none⟩:Addr).add j)=some u):=fun j u hj=>zAU G [.string A,.int .i64 ln] 131 j u hj
    have bO:w.heap.size≤G.heap.size:=Z.out.size
    clear F
    go_wp2_with (at_builtin;refine wpList_append_own _ rfl (.tmp 67) (.tmp 71) 82 rfl w.heap.size 131 i0 (.agg #[.string ⟨#[]⟩,.int .i64 0]) 2 24 Tryz.underlying82 bH z0 z1 z2 rfl (by decide) (.slice ao i co) i (enV D) (by simp[Act.eval]) (N.out.alloc _) ⟨G.heap.size,0,none⟩ 1 1 [.string A,.int .i64 ln] (by simp[Act.eval]) rfl aP.out (by intro u hu;simp at hu;rcases hu with rfl|rfl<;>rfl) (by unfold maxLen;omega) (by omega) (by simp;omega) ?_;intro v2 w2 U hG2 _;obtain⟨a2,k2,hv2⟩:=zA U;subst hv2;have R:Hid _:=U;have aF:Hid _:=hG2;clear U hG2)
    go_roundw
    case rel=>
     have aV:∀q,(Value.slice ao i co).ownBlock=some q→q<G.heap.size∧q≠c:=fun q W=>⟨zG N.out q W,fun e=>by
      obtain⟨cur,hc⟩:=zB N.out q W
      have h2:=J.out.row
      rw[←e,hc]at h2;simp at h2⟩
     have aU:∀j,j<G.heap.size→(Value.slice ao i co).ownBlock≠some j→w2.heap[j]? =G.heap[j]? :=fun j hj hn=>by
      rw[aF.out.block j (by simp;omega) (fun e=>hn e.symm),heap_alloc_old _ _ hj]
     have aG:c<G.heap.size:=(Array.getElem?_eq_some_iff.1 J.out.row).1
     refine⟨i+1,_,aI,A,all+ln,D++[(A,ln)],by omega,rfl,by go_num,by go_num,by omega,by rw[List.length_append,Q.out];rfl,?_,?_,fun h0=>by omega,by rw[zBJ];exact R.out,⟨?_,J.out.nt,J.out.small⟩,?_⟩
     ·have:=aW.out
      rw[show (4096:Int)-((all+ln:Nat):Int)=4096-(all:Int)-(ln:Int) by omega]
      exact this
     ·intro j hj
      have:j=i:=by omega
      subst this
      rw[List.getElem?_append_right (by rw[Q.out];exact Nat.le_refl _),Q.out]
      simp
     ·rw[aU c aG (fun e=>(aV c e).2 rfl)];exact J.out.row
     ·exact (Z.out.alloc _).grown aF.out (fun q W=>.inr (zK N.out q W))
    case measure=>simp[intOf];omega
   |false=>
    rw[hw2]at g2
    obtain⟨d4,c8,cG⟩:=HK.out hw2
    by_cases b6:i=0
    ·have e3:aC=a9:=by
      have cE:nm=⟨#[]⟩:=cT.out b6
      rw[←b0.out,cE,zL0 cG];simp
     subst e3
     have cY:¬((i:Int)>0):=by omega
     clear b6
     go_wp2_with fail
     obtain⟨X3,aB⟩:∃x,w2=x:=⟨_,rfl⟩
     have a7:=aD.out
     have a8:=aM.out
     have a1:=R.out
     rw[aB]at a7 a8 a1 ⊢
     clear aB g2 f1 f2 aD R aM
     have aE:Hid (CR c aC X3):=a7
     have aO:Hid (Fr (fun j=>j=c) w X3):=a8
     have a5:Hid (X3.ownsRow w.heap.size 131 2 (.slice ao i co) i (enV D)):=a1
     clear a7 a8 a1
     refine Calls.mono (H4.out _ aE.out) ?_
     rintro e G ⟨rfl,F⟩
     have bE:=F.2.size
     have N:Hid (G.ownsRow w.heap.size 131 2 (.slice ao i co) i (enV D)):=zD a5.out (fun q W=>F.2.old q (zG a5.out q W) (fun e=>by
      obtain⟨cur,hc⟩:=zB a5.out q W
      have h2:=aE.out.row
      rw[←e,hc]at h2;simp at h2))
     have J:Hid (CR c aI G):=F.1
     have Z:Hid (Fr (fun j=>j=c) w G):=aO.out.trans' F.2
     have aP:Hid (∀j u,[Value.string A,.int .i64 ln][j]? =some u→(G.alloc (.cells #[.string A,.int .i64 ln] 131)).cell? ((⟨G.heap.size,0,none⟩:Addr).add j)=some u):=fun j u hj=>zAU G [.string A,.int .i64 ln] 131 j u hj
     have bO:w.heap.size≤G.heap.size:=Z.out.size
     clear F
     go_wp2_with (at_builtin;refine wpList_append_own _ rfl (.tmp 67) (.tmp 71) 82 rfl w.heap.size 131 i0 (.agg #[.string ⟨#[]⟩,.int .i64 0]) 2 24 Tryz.underlying82 bH z0 z1 z2 rfl (by decide) (.slice ao i co) i (enV D) (by simp[Act.eval]) (N.out.alloc _) ⟨G.heap.size,0,none⟩ 1 1 [.string A,.int .i64 ln] (by simp[Act.eval]) rfl aP.out (by intro u hu;simp at hu;rcases hu with rfl|rfl<;>rfl) (by unfold maxLen;omega) (by omega) (by simp;omega) ?_;intro v2 w2 U hG2 _;obtain⟨a2,k2,hv2⟩:=zA U;subst hv2;have R:Hid _:=U;have aF:Hid _:=hG2;clear U hG2)
     go_roundw
     case rel=>
      have aV:∀q,(Value.slice ao i co).ownBlock=some q→q<G.heap.size∧q≠c:=fun q W=>⟨zG N.out q W,fun e=>by
       obtain⟨cur,hc⟩:=zB N.out q W
       have h2:=J.out.row
       rw[←e,hc]at h2;simp at h2⟩
      have aU:∀j,j<G.heap.size→(Value.slice ao i co).ownBlock≠some j→w2.heap[j]? =G.heap[j]? :=fun j hj hn=>by
       rw[aF.out.block j (by simp;omega) (fun e=>hn e.symm),heap_alloc_old _ _ hj]
      have aG:c<G.heap.size:=(Array.getElem?_eq_some_iff.1 J.out.row).1
      refine⟨i+1,_,aI,A,all+ln,D++[(A,ln)],by omega,rfl,by go_num,by go_num,by omega,by rw[List.length_append,Q.out];rfl,?_,?_,fun h0=>by omega,by rw[zBJ];exact R.out,⟨?_,J.out.nt,J.out.small⟩,?_⟩
      ·have:=aW.out
       rw[show (4096:Int)-((all+ln:Nat):Int)=4096-(all:Int)-(ln:Int) by omega]
       exact this
      ·intro j hj
       have:j=i:=by omega
       subst this
       rw[List.getElem?_append_right (by rw[Q.out];exact Nat.le_refl _),Q.out]
       simp
      ·rw[aU c aG (fun e=>(aV c e).2 rfl)];exact J.out.row
      ·exact (Z.out.alloc _).grown aF.out (fun q W=>.inr (zK N.out q W))
     case measure=>simp[intOf];omega
    ·obtain⟨m,hm⟩:∃m,i=m+1:=⟨i-1,by omega⟩
     have bQ:=cU.out m hm.symm
     have bS:m<D.length:=by rw[Q.out];omega
     rw[List.getElem?_eq_getElem bS]at bQ
     have cC:D[m].1=nm:=by simpa using bQ
     obtain⟨go,aS,dN,x0,x1⟩:=zC9 Q.out R.out m bS
     subst aS
     rw[cC]at x0
     have cY:(i:Int)>0:=by omega
     have c9:IntKind.i64.wrap ((i:Int)-1)=(m:Int):=by rw[IntKind.wrap_i64];omega
     have dO:(i:Int)-1=(m:Int):=by omega
     have dP:(m:Int)<(i:Int):=by omega
     have dQ:(0:Int)≤(m:Int):=by omega
     have dH:Hid (i=m+1):=hm
     clear hm bQ bS cC x1 b6 c9
     have c9:IntKind.i64.wrap (m:Int)=(m:Int):=by rw[IntKind.wrap_i64];omega
     cases hle:leT A nm with
     |false=>
      have cB:(Op.bytesLess A.toList nm.toList||A.toList == nm.toList)=false:=hle
      have e3:aC=a9:=by rw[←b0.out,hle];simp
      subst e3
      go_wp2_with fail
      obtain⟨X3,aB⟩:∃x,w2=x:=⟨_,rfl⟩
      have a7:=aD.out
      have a8:=aM.out
      have a1:=R.out
      rw[aB]at a7 a8 a1 ⊢
      clear aB g2 f1 f2 aD R aM x0
      obtain⟨ao,aS⟩:∃ao,(some ⟨go,0,none⟩:Option Addr)=ao:=⟨_,rfl⟩
      rw[aS]at a1 HO ⊢
      clear aS
      have aE:Hid (CR c aC X3):=a7
      have aO:Hid (Fr (fun j=>j=c) w X3):=a8
      have a5:Hid (X3.ownsRow w.heap.size 131 2 (.slice ao i co) i (enV D)):=a1
      clear a7 a8 a1
      refine Calls.mono (H4.out _ aE.out) ?_
      rintro e G ⟨rfl,F⟩
      have bE:=F.2.size
      have N:Hid (G.ownsRow w.heap.size 131 2 (.slice ao i co) i (enV D)):=zD a5.out (fun q W=>F.2.old q (zG a5.out q W) (fun e=>by
       obtain⟨cur,hc⟩:=zB a5.out q W
       have h2:=aE.out.row
       rw[←e,hc]at h2;simp at h2))
      have J:Hid (CR c aI G):=F.1
      have Z:Hid (Fr (fun j=>j=c) w G):=aO.out.trans' F.2
      have aP:Hid (∀j u,[Value.string A,.int .i64 ln][j]? =some u→(G.alloc (.cells #[.string A,.int .i64 ln] 131)).cell? ((⟨G.heap.size,0,none⟩:Addr).add j)=some u):=fun j u hj=>zAU G [.string A,.int .i64 ln] 131 j u hj
      have bO:w.heap.size≤G.heap.size:=Z.out.size
      clear F
      go_wp2_with (at_builtin;refine wpList_append_own _ rfl (.tmp 67) (.tmp 71) 82 rfl w.heap.size 131 i0 (.agg #[.string ⟨#[]⟩,.int .i64 0]) 2 24 Tryz.underlying82 bH z0 z1 z2 rfl (by decide) (.slice ao i co) i (enV D) (by simp[Act.eval]) (N.out.alloc _) ⟨G.heap.size,0,none⟩ 1 1 [.string A,.int .i64 ln] (by simp[Act.eval]) rfl aP.out (by intro u hu;simp at hu;rcases hu with rfl|rfl<;>rfl) (by unfold maxLen;omega) (by omega) (by simp;omega) ?_;intro v2 w2 U hG2 _;obtain⟨a2,k2,hv2⟩:=zA U;subst hv2;have R:Hid _:=U;have aF:Hid _:=hG2;clear U hG2)
      go_roundw
      case rel=>
       have aV:∀q,(Value.slice ao i co).ownBlock=some q→q<G.heap.size∧q≠c:=fun q W=>⟨zG N.out q W,fun e=>by
        obtain⟨cur,hc⟩:=zB N.out q W
        have h2:=J.out.row
        rw[←e,hc]at h2;simp at h2⟩
       have aU:∀j,j<G.heap.size→(Value.slice ao i co).ownBlock≠some j→w2.heap[j]? =G.heap[j]? :=fun j hj hn=>by
        rw[aF.out.block j (by simp;omega) (fun e=>hn e.symm),heap_alloc_old _ _ hj]
       have aG:c<G.heap.size:=(Array.getElem?_eq_some_iff.1 J.out.row).1
       refine⟨i+1,_,aI,A,all+ln,D++[(A,ln)],by omega,rfl,by go_num,by go_num,by omega,by rw[List.length_append,Q.out];rfl,?_,?_,fun h0=>by omega,by rw[zBJ];exact R.out,⟨?_,J.out.nt,J.out.small⟩,?_⟩
       ·have:=aW.out
        rw[show (4096:Int)-((all+ln:Nat):Int)=4096-(all:Int)-(ln:Int) by omega]
        exact this
       ·intro j hj
        have:j=i:=by omega
        subst this
        rw[List.getElem?_append_right (by rw[Q.out];exact Nat.le_refl _),Q.out]
        simp
       ·rw[aU c aG (fun e=>(aV c e).2 rfl)];exact J.out.row
       ·exact (Z.out.alloc _).grown aF.out (fun q W=>.inr (zK N.out q W))
      case measure=>simp[intOf];omega
     |true=>
      have cB:(Op.bytesLess A.toList nm.toList||A.toList == nm.toList)=true:=hle
      have bK:=zH w2 c 2 (.bool true) _ _ _ aD.out.row
      have cI:=zH (w2.setCell ⟨c,2,none⟩ (.bool true)) c 1 (.int .i64 a6) _ _ _ bK
      have a7:CR c aC ((w2.setCell ⟨c,2,none⟩ (.bool true)).setCell ⟨c,1,none⟩ (.int .i64 a6)):=by
       refine⟨?_,?_,?_⟩
       ·rw[cI,←b0.out,hle]
        have e1:atC a9.refuse=a6:=by
         show a9.field=a6
         rw[c8,←zBf d4,bL.out]
        simp only[if_true]
        unfold cuC
        rw[e1]
        rfl
       ·rw[←b0.out,hle];exact aD.out.nt
       ·rw[←b0.out,hle];exact aD.out.small
      have a8:Fr (fun j=>j=c) w ((w2.setCell ⟨c,2,none⟩ (.bool true)).setCell ⟨c,1,none⟩ (.int .i64 a6)):=(aM.out.set (.inl rfl) _ _).set (.inl rfl) _ _
      have a1:((w2.setCell ⟨c,2,none⟩ (.bool true)).setCell ⟨c,1,none⟩ (.int .i64 a6)).ownsRow w.heap.size 131 2 (.slice (some ⟨go,0,none⟩) i co) i (enV D):=zD R.out (fun q W=>by
       have bB:q≠c:=fun e=>by
        obtain⟨cur,hc⟩:=zB R.out q W
        have h2:=aD.out.row
        rw[←e,hc]at h2;simp at h2
       rw[zC _ _ _ _ _ bB,zC _ _ _ _ _ bB])
      have m1:(w2.setCell ⟨c,2,none⟩ (.bool true)).cell? ⟨c,1,none⟩=some (.int .i64 (atC a9:Nat)):=cell_of_row _ _ _ _ 124 _ bK
      have m2:(w2.setCell ⟨c,2,none⟩ (.bool true)).frozen? ⟨c,1,none⟩=false:=frozen_of_row _ _ _ _ 124 bK
      obtain⟨X3,aB⟩:∃x,(w2.setCell ⟨c,2,none⟩ (.bool true)).setCell ⟨c,1,none⟩ (.int .i64 a6)=x:=⟨_,rfl⟩
      rw[aB]at a7 a8 a1
      have bX:Hid _:=aB
      clear bK cI aB
      go_wp2_with fail
      rw[bX.out]
      clear bX g2 f1 f2 aD R aM x0 m1 m2
      obtain⟨ao,aS⟩:∃ao,(some ⟨go,0,none⟩:Option Addr)=ao:=⟨_,rfl⟩
      rw[aS]at a1 HO ⊢
      clear aS
      have aE:Hid (CR c aC X3):=a7
      have aO:Hid (Fr (fun j=>j=c) w X3):=a8
      have a5:Hid (X3.ownsRow w.heap.size 131 2 (.slice ao i co) i (enV D)):=a1
      clear a7 a8 a1
      refine Calls.mono (H4.out _ aE.out) ?_
      rintro e G ⟨rfl,F⟩
      have bE:=F.2.size
      have N:Hid (G.ownsRow w.heap.size 131 2 (.slice ao i co) i (enV D)):=zD a5.out (fun q W=>F.2.old q (zG a5.out q W) (fun e=>by
       obtain⟨cur,hc⟩:=zB a5.out q W
       have h2:=aE.out.row
       rw[←e,hc]at h2;simp at h2))
      have J:Hid (CR c aI G):=F.1
      have Z:Hid (Fr (fun j=>j=c) w G):=aO.out.trans' F.2
      have aP:Hid (∀j u,[Value.string A,.int .i64 ln][j]? =some u→(G.alloc (.cells #[.string A,.int .i64 ln] 131)).cell? ((⟨G.heap.size,0,none⟩:Addr).add j)=some u):=fun j u hj=>zAU G [.string A,.int .i64 ln] 131 j u hj
      have bO:w.heap.size≤G.heap.size:=Z.out.size
      clear F
      go_wp2_with (at_builtin;refine wpList_append_own _ rfl (.tmp 67) (.tmp 71) 82 rfl w.heap.size 131 i0 (.agg #[.string ⟨#[]⟩,.int .i64 0]) 2 24 Tryz.underlying82 bH z0 z1 z2 rfl (by decide) (.slice ao i co) i (enV D) (by simp[Act.eval]) (N.out.alloc _) ⟨G.heap.size,0,none⟩ 1 1 [.string A,.int .i64 ln] (by simp[Act.eval]) rfl aP.out (by intro u hu;simp at hu;rcases hu with rfl|rfl<;>rfl) (by unfold maxLen;omega) (by omega) (by simp;omega) ?_;intro v2 w2 U hG2 _;obtain⟨a2,k2,hv2⟩:=zA U;subst hv2;have R:Hid _:=U;have aF:Hid _:=hG2;clear U hG2)
      go_roundw
      case rel=>
       have aV:∀q,(Value.slice ao i co).ownBlock=some q→q<G.heap.size∧q≠c:=fun q W=>⟨zG N.out q W,fun e=>by
        obtain⟨cur,hc⟩:=zB N.out q W
        have h2:=J.out.row
        rw[←e,hc]at h2;simp at h2⟩
       have aU:∀j,j<G.heap.size→(Value.slice ao i co).ownBlock≠some j→w2.heap[j]? =G.heap[j]? :=fun j hj hn=>by
        rw[aF.out.block j (by simp;omega) (fun e=>hn e.symm),heap_alloc_old _ _ hj]
       have aG:c<G.heap.size:=(Array.getElem?_eq_some_iff.1 J.out.row).1
       refine⟨i+1,_,aI,A,all+ln,D++[(A,ln)],by omega,rfl,by go_num,by go_num,by omega,by rw[List.length_append,Q.out];rfl,?_,?_,fun h0=>by omega,by rw[zBJ];exact R.out,⟨?_,J.out.nt,J.out.small⟩,?_⟩
       ·have:=aW.out
        rw[show (4096:Int)-((all+ln:Nat):Int)=4096-(all:Int)-(ln:Int) by omega]
        exact this
       ·intro j hj
        have:j=i:=by omega
        subst this
        rw[List.getElem?_append_right (by rw[Q.out];exact Nat.le_refl _),Q.out]
        simp
       ·rw[aU c aG (fun e=>(aV c e).2 rfl)];exact J.out.row
       ·exact (Z.out.alloc _).grown aF.out (fun q W=>.inr (zK N.out q W))
      case measure=>simp[intOf];omega
  ·by_cases cZ:i<n
   ·have hw:st.wrong=true:=by
     cases hh:st.wrong with
     |true=>rfl
     |false=>exact absurd ⟨cZ,hh⟩ bA
    rw[hw]at g2
    have cA:(i:Int)<(n:Int):=by omega
    have b4:T.1=st:=by rw[←bW.out];exact zCp _ _ _ _ _ hw
    have b3:Hid _:=b4
    have HW:Hid _:=hw
    clear ho hI hF b5 bG b4 hw bJ bA
    go_wp2_with fail
    go_ret
    refine⟨_,D,rfl,?_,⟨by rw[b3.out];exact HI.out,HF.out⟩,by rw[Q.out];omega,fun h=>by rw[b3.out,HW.out]at h;cases h⟩
    rw[Q.out];exact HO.out
   ·have ei:i=n:=by omega
    have cA:¬((i:Int)<(n:Int)):=by omega
    have b4:T=(st,D):=by have:=bW.out;rw[ei,Nat.sub_self]at this;exact this.symm
    have b3:Hid _:=b4
    clear ho hI hF b5 bG b4 bJ bA ei
    go_wp2_with fail
    go_ret
    refine⟨Value.slice ao i co,rfl,D,?_,⟨?_,HF.out⟩,?_,?_⟩
    ·rw[Q.out];exact HO.out
    ·rw[b3.out];exact HI.out
    ·rw[Q.out];omega
    ·intro _;rw[b3.out]
end Go.Proofs.YtlopecgkiikdhaaGreatDoor
