import Derived.Test.YtlopecgkiikdhaaGreatDoorX33
namespace Go.Proofs.YtlopecgkiikdhaaGreatDoor
open Go.RowKit
set_option maxRecDepth 100000
set_option maxHeartbeats 4000000
def fsM:Option (Nat×Nat)→List (Int×Int)
 |none=>[]
 |some e=>[(10,0),((e.1:Int),(e.2:Int))]
def clM:Option (Nat×Nat)→List (Int×Int)
 |none=>[]
 |some e=>[((e.1:Int),(e.2:Int))]
def Mk (w:World)(B:Nat)(v:Value)(l:List (Int×Int)):Prop:=w.ownsRow B 121 2 v l.length (mkL l)
theorem Mk.nil (w:World)(B:Nat):Mk w B (.slice none 0 0) []:=⟨rfl,.inl ⟨rfl,rfl⟩⟩
theorem Mk.keep {w w':World}{B:Nat}{v:Value}{l:List (Int×Int)}(h:Mk w B v l)(hk:Kp250 w w'):Mk w' B v l:=hk.own h
structure OI2 (kt:Nat→Int)(w0:World)(v:Nat)(r:RO)(fv cv:Value)(w:World):Prop where
 rv:∃vH vU hp,RV kt w0 v vH vU hp r.un w∧hp.map Prod.fst=r.hs
 fs:Mk w w0.heap.size fv (fsM r.fs)
 cl:Mk w w0.heap.size cv (clM r.cl)
theorem OI2.bel {kt:Nat→Int}{j:World}{v:Nat}{r:RO}{A u:Value}{w:World}(h:OI2 kt j v r A u w):Below j.heap.size j w:=by
 obtain⟨_,_,_,D,_⟩:=h.rv
 exact D.bel
theorem OI2.low {kt:Nat→Int}{A:World}{v:Nat}{r:RO}{u j:Value}{w w':World}(h:OI2 kt A v r u j w)(hb:Below w.heap.size w w'):OI2 kt A v r u j w':=by
 obtain⟨vH,vU,hp,D,F⟩:=h.rv
 exact⟨⟨vH,vU,hp,D.low hb,F⟩,h.fs.keep (Kp250.below hb),h.cl.keep (Kp250.below hb)⟩
theorem zHk {hp:List (ByteArray×Nat)}{t:ByteArray}(u:∀x∈hp.head?,zAT x.1 t)(A:∀x∈hp,(tT x.1).num≠(tT t).num):jnK (hp.map Prod.fst) t=none:=by
 cases hp with
 |nil=>rfl
 |cons y r=>
  have hs:=u y rfl
  show (if _ then _ else _)=_
  rw[if_pos (show (tT y.1).root=(tT t).root∧(tT y.1).lst=(tT t).lst∧(tT y.1).lv=(tT t).lv from hs),if_neg]
  intro e
  obtain⟨x,D,j⟩:=List.any_eq_true.1 e
  obtain⟨z,F,rfl⟩:=List.mem_map.1 (show x∈(y::r).map Prod.fst from D)
  exact A z F (of_decide_eq_true j)
theorem zNe {hp:List (ByteArray×Nat)}{t:ByteArray}(h:∃x∈hp.head?,¬zAT x.1 t):jnK (hp.map Prod.fst) t=some 12:=by
 obtain⟨x,j,u⟩:=h
 cases hp with
 |nil=>cases j
 |cons y r=>
  obtain rfl:y=x:=by simpa using j
  show (if _ then _ else _)=_
  rw[if_neg (show ¬((tT y.1).root=(tT t).root∧(tT y.1).lst=(tT t).lst∧(tT y.1).lv=(tT t).lv) from u)]
theorem zNf {hp:List (ByteArray×Nat)}{t:ByteArray}(h:∃x∈hp.head?,zAT x.1 t)(u:∃x∈hp,(tT x.1).num=(tT t).num):jnK (hp.map Prod.fst) t=some 13:=by
 obtain⟨x,j,hs⟩:=h
 obtain⟨z,A,e⟩:=u
 cases hp with
 |nil=>cases j
 |cons y r=>
  obtain rfl:y=x:=by simpa using j
  show (if _ then _ else _)=_
  rw[if_pos (show (tT y.1).root=(tT t).root∧(tT y.1).lst=(tT t).lst∧(tT y.1).lv=(tT t).lv from hs),if_pos]
  exact List.any_eq_true.2 ⟨z.1,List.mem_map.2 ⟨z,A,rfl⟩,decide_eq_true e⟩
def ROD (kt:Nat→Int)(rt:ByteArray)(L:Nat→ByteArray)(n:Nat)(w:World)(e:Ending)(w':World):Prop:=
 ∃p m,e=.returned (.tuple #[p,m])∧Below w.heap.size w w'∧((rt.size≠0∧rt.size≠32∧p=.pointer none∧Mk w' w.heap.size m [(9,0)])∨((rt.size=0∨rt.size=32)∧(((RO.run kt rt 0 (zh L n) RO.new).hs=[]∧p=.pointer none∧Mk w' w.heap.size m ((11,(n:Int))::fsM (RO.run kt rt 0 (zh L n) RO.new).fs))
  ∨((RO.run kt rt 0 (zh L n) RO.new).hs≠[]∧(RO.run kt rt 0 (zh L n) RO.new).cl≠none∧p=.pointer none∧Mk w' w.heap.size m (clM (RO.run kt rt 0 (zh L n) RO.new).cl))
  ∨((RO.run kt rt 0 (zh L n) RO.new).hs≠[]∧(RO.run kt rt 0 (zh L n) RO.new).cl=none∧m=.slice none 0 0∧∃v vH vU hp,p=.pointer (some ⟨v,0,none⟩)∧RV kt w v vH vU hp (RO.run kt rt 0 (zh L n) RO.new).un w'∧hp.map Prod.fst=(RO.run kt rt 0 (zh L n) RO.new).hs))))
theorem zFb (kt:Nat→Int)(rt:ByteArray)(L:Nat→ByteArray):∀i,(RO.run kt rt 0 (zh L i) RO.new).hs.length≤i
 |0=>by simp[zh,RO.run,RO.new]
 |i+1=>by
  rw[zg,RO.run_snoc]
  have j:=zFb kt rt L i
  unfold RO.step
  split
  ·exact Nat.le_succ_of_le j
  ·split
   ·show (_++[_]).length≤_
    rw[List.length_append];simp;omega
   ·exact Nat.le_succ_of_le j
theorem zGF (kt:Nat→Int)(rt:ByteArray)(L:Nat→ByteArray):∀i,(RO.run kt rt 0 (zh L i) RO.new).un.length≤i
 |0=>by simp[zh,RO.run,RO.new]
 |i+1=>by
  rw[zg,RO.run_snoc]
  have j:=zGF kt rt L i
  unfold RO.step
  split
  ·show (_++[_]).length≤_
   rw[List.length_append];simp;omega
  ·split<;>exact Nat.le_succ_of_le j
theorem zN4 (kt:Nat→Int)(rt:ByteArray)(L:Nat→ByteArray)(a:Option Addr)(n cW:Nat)(w:World)(hG:Gr kt w)(hn:n≤100000000)(hL:∀i,i<n→(L i).size≤140737488351232)(hR:RawT w a n cW L):
 Calls Tryz.prog 10 #[.slice a n cW,.string rt] w fun e w'=>ROD kt rt L n w e w':=by
 have HG:Hid _:=hG
 have HL:Hid _:=hL
 have HR:Hid _:=hR
 clear hG hL hR
 by_cases aP:rt.size≠0∧rt.size≠32
 ·have q1:(rt.toList == (⟨#[]⟩:ByteArray).toList)=false:=zW (fun e=>aP.1 (by rw[e];rfl))
  have q4:¬rt.toList=[]:=fun e=>aP.1 (by rw[ByteArray.toList_eq]at e;have h1:=congrArg List.length e;simpa using h1)
  have q5:(rt.toList == [])=false:=by rw[beq_eq_false_iff_ne];exact q4
  have e1:((rt.size:Int) != 32)=true:=by rw[bne_iff_ne];omega
  have q2:((rt.size:Int) == 32)=false:=by simp;omega
  have q3:¬(rt.size:Int)=32:=by omega
  have cS:Hid _:=aP
  clear aP
  go_enter Tryz.func10,Tryz.ntmps10
  go_wp2_with fail
  refine Calls.mono (zBg 9 0 w) ?_
  rintro e w6 ⟨m,rfl,ho,hB⟩
  obtain⟨va,vc,rfl⟩:=zA ho
  have HO:Hid _:=ho
  have HB:Hid _:=hB
  clear ho hB
  go_wp2_with fail
  go_ret2
  exact⟨_,_,rfl,HB.out,.inl ⟨cS.out.1,cS.out.2,rfl,HO.out⟩⟩
 ·have d1:rt.size=0∨rt.size=32:=by omega
  clear aP
  have b0:Hid _:=d1
  rcases d1 with h0|h0
  ·have aZ:rt=⟨#[]⟩:=by
    apply ByteArray.ext
    have h1:rt.data.size=0:=h0
    exact Array.size_eq_zero_iff.1 h1
   have bW:Hid _:=aZ
   have q4:rt.toList=[]:=by rw[aZ,ByteArray.toList_eq]
   have q5:(rt.toList == [])=true:=by rw[q4];rfl
   clear aZ h0
   go_enter Tryz.func10,Tryz.ntmps10
   go_wp2_with fail
   obtain⟨X0,aW⟩:∃X,w.alloc (.cells #[.slice none 0 0,.slice none 0 0] 76)=X:=⟨_,rfl⟩
   have H0:Hid (OI2 kt w w.heap.size RO.new (.slice none 0 0) (.slice none 0 0) X0):=by
    show OI2 _ _ _ _ _ _ _
    rw[←aW]
    exact⟨⟨_,_,[],⟨heap_alloc_new _ _,⟨rfl,.inl ⟨rfl,rfl⟩⟩,⟨rfl,.inl ⟨rfl,rfl⟩⟩,fun x hx=>(by cases hx),Nat.le_refl _,(Below.refl _ _).alloc (Nat.le_refl _) _⟩,rfl⟩,Mk.nil _ _,Mk.nil _ _⟩
   rw[aW]
   clear aW
   go_loopw [7,8,9,10,11] (fun fv cv iv _ _ wr=>∃(i:Nat) (ff cc:Value),i≤n∧ff=fv∧cc=cv∧iv=.int .i64 i∧OI2 kt w w.heap.size (RO.run kt rt 0 (zh L i) RO.new) ff cc wr) (fun _ _ iv _ _ _=>n-(intOf iv).toNat)
   case atStart=>exact⟨0,_,_,by omega,rfl,rfl,rfl,H0.out⟩
   case round=>
    obtain⟨i,ff,cc,hi,rfl,rfl,rfl,hI⟩:=hrel
    obtain⟨r,hr⟩:∃r,RO.run kt rt 0 (zh L i) RO.new=r:=⟨_,rfl⟩
    have HS:Hid (RO.run kt rt 0 (zh L (i+1)) RO.new=r.step kt rt i (L i)):=by
     show _=_
     rw[zg,RO.run_snoc,hr,zi,Nat.zero_add]
    have cD:Hid (r.hs.length≤i):=by show _≤_;rw[←hr];exact zFb kt rt L i
    have bX:Hid (r.un.length≤i):=by show _≤_;rw[←hr];exact zGF kt rt L i
    rw[hr]at hI
    have bO:=hI.fs
    obtain⟨lf,aK⟩:∃x,(fsM r.fs).length=x:=⟨_,rfl⟩
    obtain⟨af,cf,cO⟩:=zA bO
    subst cO
    have bM:=hI.cl
    obtain⟨lc,aJ⟩:∃x,(clM r.cl).length=x:=⟨_,rfl⟩
    obtain⟨ac,b1,cN⟩:=zA bM
    subst cN
    rw[aK,aJ]at hI
    rw[aK,aJ]
    have HI:Hid _:=hI
    have d9:Hid _:=aK
    have aG:Hid _:=aJ
    have J:Hid _:=hr
    clear hI bO bM hr aK aJ
    by_cases bJ:i<n
    ·have bK:(i:Int)<(n:Int):=by omega
     obtain⟨b,off,rfl,aB⟩:∃b off,a=some ⟨b,off,none⟩∧wr.cell? ⟨b,off+i,none⟩=some (.string (L i)):=by
      rcases RawT.below HR.out HI.out.bel with ⟨_,h1,_⟩|⟨ad,e,hc⟩
      ·omega
      ·obtain⟨b,off,e2,_,cI⟩:=hc i bJ
       exact⟨b,off,by rw[e,e2],cI⟩
     have aT:Hid _:=zN5 kt (L i) wr (HG.out.below HI.out.bel) (HL.out i bJ)
     obtain⟨t,ht⟩:∃x,L i=x:=⟨_,rfl⟩
     rw[ht]at aT aB HS
     clear ht
     go_wp2_with fail
     refine Calls.mono aT.out ?_
     rintro e w1 ⟨p,m,rfl,aV⟩
     have bA:Hid _:=aV
     have Z:Hid _:=HI.out.low aV.bel
     clear aV aT aB
     cases hrd:rdE kt t with
     |some kp=>
      obtain⟨k,q⟩:=kp
      have hm:=bA.out.bad k q hrd
      obtain⟨ea,ec,rfl⟩:=zA hm
      have HE:Hid (Mk w1 w.heap.size (.slice ea 1 ec) [((k:Int),(q:Int))]):=zP hm HI.out.bel.size
      have a9:Hid (sdE kt rt t=some (k,q)):=by show _=_;unfold sdE;rw[hrd];rfl
      clear hm
      obtain⟨vH,vU,hp,A,G⟩:=Z.out.rv
      have aR:=A.oU
      obtain⟨aU,cU,bQ⟩:=zA aR
      subst bQ
      have bP:r.un.length≤100000000:=Nat.le_trans bX.out (by omega)
      obtain⟨v',w5,W,j,aC,D⟩:=RV.miss A i bP
      have a1:w1.cell? ⟨w.heap.size,1,none⟩=some (.slice aU r.un.length cU):=cell_of_row _ _ _ _ 76 _ A.row
      have d4:w5.cell? ⟨w.heap.size,1,none⟩=some (.slice aU r.un.length cU):=cell_of_row _ _ _ _ 76 _ aC
      have d3:=frozen_of_row w5 w.heap.size 1 _ 76 aC
      obtain⟨aN,aO,bS⟩:=zA j.oU
      subst bS
      obtain⟨n2,aQ⟩:∃x,(r.un++[i]).length=x:=⟨_,rfl⟩
      rw[aQ]at W j D
      obtain⟨W5,a5⟩:∃X,w5.setCell ⟨w.heap.size,1,none⟩ (.slice aN n2 aO)=X:=⟨_,rfl⟩
      have b7:Hid (Mk W5 w.heap.size (.slice ea 1 ec) [((k:Int),(q:Int))]):=by show Mk _ _ _ _;rw[←a5];exact Mk.keep HE.out D
      have a6:Hid (Mk W5 w.heap.size (.slice af lf cf) (fsM r.fs)):=by show Mk _ _ _ _;rw[←a5];exact Mk.keep Z.out.fs D
      have a4:Hid (Mk W5 w.heap.size (.slice ac lc b1) (clM r.cl)):=by show Mk _ _ _ _;rw[←a5];exact Mk.keep Z.out.cl D
      have u:Hid (RV kt w w.heap.size vH (.slice aN n2 aO) hp (r.un++[i]) W5):=by show RV _ _ _ _ _ _ _ _;rw[←a5];exact j
      have F:Hid _:=G
      have RR:Hid _:=W
      have Q:Hid (RO.run kt rt 0 (zh L (i+1)) RO.new={ r with un:=r.un++[i],fs:=if i=0 then some (k,q) else r.fs }):=by
       show _=_
       rw[HS.out]
       unfold RO.step
       rw[a9.out]
      clear A G aR W j aC D aQ
      go_wp2_with (at_builtin;refine zJ rfl (.tmp 59) (.tmp 61) 23 rfl _ _ _ (by simp[Act.eval]) (by simp[Act.eval]) _ RR.out ?_)
      ·have a8:Hid (i=0):=by show i=0;have hz:((i:Int) == 0)=true:=(by assumption);simp at hz;omega
       have aI:Hid _:=zAq 10 0 [((k:Int),(q:Int))] (.slice ea 1 ec) w.heap.size W5 b7.out (by simp)
       refine Calls.mono aI.out ?_
       rintro e w6 ⟨fm,rfl,N,U⟩
       obtain⟨fa,fc,rfl⟩:=zA N
       have aE:Hid (Mk w6 w.heap.size _ [(10,0),((k:Int),(q:Int))]):=zP N u.out.bel.size
       have aL:Hid _:=u.out.low U
       have b6:Hid _:=a4.out.keep (Kp250.below U)
       clear N U
       go_wp2_with fail
       go_roundw
       case rel=>
        refine⟨i+1,_,_,by omega,rfl,rfl,by go_num,?_⟩
        rw[Q.out,if_pos a8.out]
        exact⟨⟨_,_,hp,aL.out,F.out⟩,aE.out,b6.out⟩
       case measure=>simp[intOf];omega
      ·have a8:Hid (¬i=0):=by show ¬i=0;have hz:((i:Int) == 0)=false:=(by first|assumption|(have h9:¬((i:Int) == 0)=true:=(by assumption);simpa using h9));simp at hz;omega
       go_roundw
       case rel=>
        refine⟨i+1,_,_,by omega,rfl,rfl,by go_num,?_⟩
        rw[Q.out,if_neg a8.out]
        exact⟨⟨_,_,hp,u.out,F.out⟩,a6.out,a4.out⟩
       case measure=>simp[intOf];omega
     |none=>
      obtain⟨rfl,g,rfl,bE⟩:=RRd.head bA.out hrd
      have HH:Hid (RHd kt w.heap.size t g w1):=bE.base HI.out.bel.size
      clear bE
      have a9:Hid (sdE kt rt t=none):=by
       show _=_
       unfold sdE
       rw[hrd,if_neg (by simp),if_pos bW.out]
      obtain⟨vH,vU,hp,A,G⟩:=Z.out.rv
      have cL:hp.length≤100000000:=by
       have h1:=congrArg List.length G
       rw[List.length_map]at h1
       have h2:=cD.out
       omega
      have b9:Hid _:=zKw kt w w.heap.size vH vU hp r.un t g i w1 A HH.out cL
      have F:Hid _:=G
      clear A G
      go_wp2_with fail
      refine Calls.mono b9.out ?_
      rintro e w5 ⟨rv,rfl,D,aX⟩
      have a6:Hid (Mk w5 w.heap.size (.slice af lf cf) (fsM r.fs)):=Mk.keep Z.out.fs D
      have a4:Hid (Mk w5 w.heap.size (.slice ac lc b1) (clM r.cl)):=Mk.keep Z.out.cl D
      clear D b9
      rcases aX with ⟨rfl,h1,h2,dM,j⟩|⟨kk,hm,j,hk⟩
      ·have Q:Hid (RO.run kt rt 0 (zh L (i+1)) RO.new={ r with hs:=r.hs++[t] }):=by
        show _=_
        rw[HS.out]
        unfold RO.step
        rw[a9.out]
        have h3:=zHk h1 h2
        rw[F.out]at h3
        simp only[h3]
       have u:Hid _:=j
       clear h1 h2 j
       go_wp2_with fail
       go_roundw
       case rel=>
        refine⟨i+1,_,_,by omega,rfl,rfl,by go_num,?_⟩
        rw[Q.out]
        exact⟨⟨_,_,hp++[(t,g)],u.out,by rw[List.map_append,F.out];rfl⟩,a6.out,a4.out⟩
       case measure=>simp[intOf];omega
      ·obtain⟨ma,mc,rfl⟩:=zA hm
       have HM:Hid _:=hm
       have u:Hid _:=j
       obtain⟨kn,cK,bH⟩:∃kn:Nat,kk=(kn:Int)∧jnK r.hs t=some kn:=by
        rw[←F.out]
        rcases hk with ⟨e,h1⟩|⟨e,h1,h2⟩
        ·exact⟨12,e,zNe h1⟩
        ·exact⟨13,e,zNf h1 h2⟩
       subst cK
       have Q:Hid (RO.run kt rt 0 (zh L (i+1)) RO.new={ r with cl:=match r.cl with|none=>some (kn,i)|some c=>some c }):=by
        show _=_
        rw[HS.out]
        unfold RO.step
        rw[a9.out]
        simp only[bH]
        cases r.cl<;>rfl
       clear hm j hk bH
       cases hcl:r.cl with
       |none=>
        have a2:lc=0:=by rw[←aG.out,hcl];rfl
        subst a2
        have R:Hid _:=hcl
        clear hcl
        go_wp2_with fail
        go_roundw
        case rel=>
         refine⟨i+1,_,_,by omega,rfl,rfl,by go_num,?_⟩
         rw[Q.out,R.out]
         exact⟨⟨_,_,hp,u.out,F.out⟩,a6.out,HM.out⟩
        case measure=>simp[intOf];omega
       |some c=>
        have a2:lc=1:=by rw[←aG.out,hcl];rfl
        subst a2
        have R:Hid _:=hcl
        clear hcl
        go_wp2_with fail
        go_roundw
        case rel=>
         refine⟨i+1,_,_,by omega,rfl,rfl,by go_num,?_⟩
         have bF:=a4.out
         rw[R.out]at bF
         rw[Q.out,R.out]
         exact⟨⟨_,_,hp,u.out,F.out⟩,a6.out,bF⟩
        case measure=>simp[intOf];omega
    ·have bK:¬(i:Int)<(n:Int):=by omega
     obtain rfl:i=n:=by omega
     obtain⟨vH,vU,hp,A,G⟩:=HI.out.rv
     obtain⟨nh,bL⟩:∃x,(hp.map Prod.snd).length=x:=⟨_,rfl⟩
     obtain⟨aH,cH,cM⟩:=zA A.oH
     subst cM
     have a0:wr.cell? ⟨w.heap.size,0,none⟩=some (.slice aH nh cH):=by rw[←bL];exact cell_of_row _ _ _ _ 76 _ A.row
     have a7:Hid _:=A
     have F:Hid _:=G
     have bG:r.hs.length=nh:=by rw[←bL,←G];simp
     clear A G
     by_cases hz:nh=0
     ·have cP:((nh:Int) == 0)=true:=by simp;omega
      have aF:Hid (r.hs=[]):=List.length_eq_zero_iff.1 (bG.trans hz)
      have aI:Hid _:=zAq 11 i (fsM r.fs) (.slice af lf cf) w.heap.size wr HI.out.fs (by cases r.fs<;>simp[fsM])
      subst hz
      go_wp2_with fail
      refine Calls.mono aI.out ?_
      rintro e w6 ⟨fm,rfl,N,U⟩
      obtain⟨fa,fc,rfl⟩:=zA N
      have aE:Hid _:=zP N a7.out.bel.size
      have cC:Hid (Below w.heap.size w w6):=a7.out.bel.trans (U.mono a7.out.bel.size)
      clear N U
      go_wp2_with fail
      go_ret2
      exact⟨_,_,rfl,cC.out,.inr ⟨b0.out,.inl ⟨by rw[J.out];exact aF.out,rfl,by rw[J.out];exact aE.out⟩⟩⟩
     ·have cP:((nh:Int) == 0)=false:=by simp;omega
      have dK:¬(nh:Int)=0:=by omega
      have aF:Hid (r.hs≠[]):=fun e=>hz (by rw[←bG,e];rfl)
      clear hz
      cases hcl:r.cl with
      |none=>
       have a2:lc=0:=by rw[←aG.out,hcl];rfl
       subst a2
       have R:Hid _:=hcl
       clear hcl
       go_wp2_with fail
       go_ret2
       exact⟨_,_,rfl,a7.out.bel,.inr ⟨b0.out,.inr (.inr ⟨by rw[J.out];exact aF.out,by rw[J.out];exact R.out,rfl,_,_,_,hp,rfl,by rw[J.out];exact a7.out,by rw[J.out];exact F.out⟩)⟩⟩
      |some c=>
       have a2:lc=1:=by rw[←aG.out,hcl];rfl
       subst a2
       have R:Hid _:=hcl
       clear hcl
       go_wp2_with fail
       go_ret2
       exact⟨_,_,rfl,a7.out.bel,.inr ⟨b0.out,.inr (.inl ⟨by rw[J.out];exact aF.out,by rw[J.out,R.out];simp,rfl,by rw[J.out];exact HI.out.cl⟩)⟩⟩
  ·have aZ:rt≠⟨#[]⟩:=fun e=>by rw[e]at h0;cases h0
   have bW:Hid _:=aZ
   have q4:¬rt.toList=[]:=fun e=>aZ (by
    apply ByteArray.ext
    rw[ByteArray.toList_eq]at e
    exact Array.toList_inj.1 e)
   have q5:(rt.toList == [])=false:=by rw[beq_eq_false_iff_ne];exact q4
   have e1:((rt.size:Int) != 32)=false:=by simp;omega
   have q3:(rt.size:Int)=32:=by omega
   clear aZ
   go_enter Tryz.func10,Tryz.ntmps10
   go_wp2_with fail
   obtain⟨X0,aW⟩:∃X,w.alloc (.cells #[.slice none 0 0,.slice none 0 0] 76)=X:=⟨_,rfl⟩
   have H0:Hid (OI2 kt w w.heap.size RO.new (.slice none 0 0) (.slice none 0 0) X0):=by
    show OI2 _ _ _ _ _ _ _
    rw[←aW]
    exact⟨⟨_,_,[],⟨heap_alloc_new _ _,⟨rfl,.inl ⟨rfl,rfl⟩⟩,⟨rfl,.inl ⟨rfl,rfl⟩⟩,fun x hx=>(by cases hx),Nat.le_refl _,(Below.refl _ _).alloc (Nat.le_refl _) _⟩,rfl⟩,Mk.nil _ _,Mk.nil _ _⟩
   rw[aW]
   clear aW
   go_loopw [7,8,9,10,11] (fun fv cv iv _ _ wr=>∃(i:Nat) (ff cc:Value),i≤n∧ff=fv∧cc=cv∧iv=.int .i64 i∧OI2 kt w w.heap.size (RO.run kt rt 0 (zh L i) RO.new) ff cc wr) (fun _ _ iv _ _ _=>n-(intOf iv).toNat)
   case atStart=>exact⟨0,_,_,by omega,rfl,rfl,rfl,H0.out⟩
   case round=>
    obtain⟨i,ff,cc,hi,rfl,rfl,rfl,hI⟩:=hrel
    obtain⟨r,hr⟩:∃r,RO.run kt rt 0 (zh L i) RO.new=r:=⟨_,rfl⟩
    have HS:Hid (RO.run kt rt 0 (zh L (i+1)) RO.new=r.step kt rt i (L i)):=by
     show _=_
     rw[zg,RO.run_snoc,hr,zi,Nat.zero_add]
    have cD:Hid (r.hs.length≤i):=by show _≤_;rw[←hr];exact zFb kt rt L i
    have bX:Hid (r.un.length≤i):=by show _≤_;rw[←hr];exact zGF kt rt L i
    rw[hr]at hI
    have bO:=hI.fs
    obtain⟨lf,aK⟩:∃x,(fsM r.fs).length=x:=⟨_,rfl⟩
    obtain⟨af,cf,cO⟩:=zA bO
    subst cO
    have bM:=hI.cl
    obtain⟨lc,aJ⟩:∃x,(clM r.cl).length=x:=⟨_,rfl⟩
    obtain⟨ac,b1,cN⟩:=zA bM
    subst cN
    rw[aK,aJ]at hI
    rw[aK,aJ]
    have HI:Hid _:=hI
    have d9:Hid _:=aK
    have aG:Hid _:=aJ
    have J:Hid _:=hr
    clear hI bO bM hr aK aJ
    by_cases bJ:i<n
    ·have bK:(i:Int)<(n:Int):=by omega
     obtain⟨b,off,rfl,aB⟩:∃b off,a=some ⟨b,off,none⟩∧wr.cell? ⟨b,off+i,none⟩=some (.string (L i)):=by
      rcases RawT.below HR.out HI.out.bel with ⟨_,h1,_⟩|⟨ad,e,hc⟩
      ·omega
      ·obtain⟨b,off,e2,_,cI⟩:=hc i bJ
       exact⟨b,off,by rw[e,e2],cI⟩
     have aT:Hid _:=zN5 kt (L i) wr (HG.out.below HI.out.bel) (HL.out i bJ)
     obtain⟨t,ht⟩:∃x,L i=x:=⟨_,rfl⟩
     rw[ht]at aT aB HS
     clear ht
     go_wp2_with fail
     refine Calls.mono aT.out ?_
     rintro e w1 ⟨p,m,rfl,aV⟩
     have bA:Hid _:=aV
     have Z:Hid _:=HI.out.low aV.bel
     clear aV aT aB
     cases hrd:rdE kt t with
     |some kp=>
      obtain⟨k,q⟩:=kp
      have hm:=bA.out.bad k q hrd
      obtain⟨ea,ec,rfl⟩:=zA hm
      have HE:Hid (Mk w1 w.heap.size (.slice ea 1 ec) [((k:Int),(q:Int))]):=zP hm HI.out.bel.size
      have a9:Hid (sdE kt rt t=some (k,q)):=by show _=_;unfold sdE;rw[hrd];rfl
      clear hm
      obtain⟨vH,vU,hp,A,G⟩:=Z.out.rv
      have aR:=A.oU
      obtain⟨aU,cU,bQ⟩:=zA aR
      subst bQ
      have bP:r.un.length≤100000000:=Nat.le_trans bX.out (by omega)
      obtain⟨v',w5,W,j,aC,D⟩:=RV.miss A i bP
      have a1:w1.cell? ⟨w.heap.size,1,none⟩=some (.slice aU r.un.length cU):=cell_of_row _ _ _ _ 76 _ A.row
      have d4:w5.cell? ⟨w.heap.size,1,none⟩=some (.slice aU r.un.length cU):=cell_of_row _ _ _ _ 76 _ aC
      have d3:=frozen_of_row w5 w.heap.size 1 _ 76 aC
      obtain⟨aN,aO,bS⟩:=zA j.oU
      subst bS
      obtain⟨n2,aQ⟩:∃x,(r.un++[i]).length=x:=⟨_,rfl⟩
      rw[aQ]at W j D
      obtain⟨W5,a5⟩:∃X,w5.setCell ⟨w.heap.size,1,none⟩ (.slice aN n2 aO)=X:=⟨_,rfl⟩
      have b7:Hid (Mk W5 w.heap.size (.slice ea 1 ec) [((k:Int),(q:Int))]):=by show Mk _ _ _ _;rw[←a5];exact Mk.keep HE.out D
      have a6:Hid (Mk W5 w.heap.size (.slice af lf cf) (fsM r.fs)):=by show Mk _ _ _ _;rw[←a5];exact Mk.keep Z.out.fs D
      have a4:Hid (Mk W5 w.heap.size (.slice ac lc b1) (clM r.cl)):=by show Mk _ _ _ _;rw[←a5];exact Mk.keep Z.out.cl D
      have u:Hid (RV kt w w.heap.size vH (.slice aN n2 aO) hp (r.un++[i]) W5):=by show RV _ _ _ _ _ _ _ _;rw[←a5];exact j
      have F:Hid _:=G
      have RR:Hid _:=W
      have Q:Hid (RO.run kt rt 0 (zh L (i+1)) RO.new={ r with un:=r.un++[i],fs:=if i=0 then some (k,q) else r.fs }):=by
       show _=_
       rw[HS.out]
       unfold RO.step
       rw[a9.out]
      clear A G aR W j aC D aQ
      go_wp2_with (at_builtin;refine zJ rfl (.tmp 59) (.tmp 61) 23 rfl _ _ _ (by simp[Act.eval]) (by simp[Act.eval]) _ RR.out ?_)
      ·have a8:Hid (i=0):=by show i=0;have hz:((i:Int) == 0)=true:=(by assumption);simp at hz;omega
       have aI:Hid _:=zAq 10 0 [((k:Int),(q:Int))] (.slice ea 1 ec) w.heap.size W5 b7.out (by simp)
       refine Calls.mono aI.out ?_
       rintro e w6 ⟨fm,rfl,N,U⟩
       obtain⟨fa,fc,rfl⟩:=zA N
       have aE:Hid (Mk w6 w.heap.size _ [(10,0),((k:Int),(q:Int))]):=zP N u.out.bel.size
       have aL:Hid _:=u.out.low U
       have b6:Hid _:=a4.out.keep (Kp250.below U)
       clear N U
       go_wp2_with fail
       go_roundw
       case rel=>
        refine⟨i+1,_,_,by omega,rfl,rfl,by go_num,?_⟩
        rw[Q.out,if_pos a8.out]
        exact⟨⟨_,_,hp,aL.out,F.out⟩,aE.out,b6.out⟩
       case measure=>simp[intOf];omega
      ·have a8:Hid (¬i=0):=by show ¬i=0;have hz:((i:Int) == 0)=false:=(by first|assumption|(have h9:¬((i:Int) == 0)=true:=(by assumption);simpa using h9));simp at hz;omega
       go_roundw
       case rel=>
        refine⟨i+1,_,_,by omega,rfl,rfl,by go_num,?_⟩
        rw[Q.out,if_neg a8.out]
        exact⟨⟨_,_,hp,u.out,F.out⟩,a6.out,a4.out⟩
       case measure=>simp[intOf];omega
     |none=>
      obtain⟨rfl,g,rfl,bE⟩:=RRd.head bA.out hrd
      have HH:Hid (RHd kt w.heap.size t g w1):=bE.base HI.out.bel.size
      clear bE
      have g4:=HH.out.cells.2
      by_cases b4:(tT t).root=rt
      ·have q6:((tT t).root.toList == rt.toList)=true:=zS b4
       have a9:Hid (sdE kt rt t=none):=by
        show _=_
        unfold sdE
        rw[hrd,if_neg (by simp),if_neg bW.out,if_pos (show (RS.on t).told.root=rt from b4)]
       clear b4
       obtain⟨vH,vU,hp,A,G⟩:=Z.out.rv
       have cL:hp.length≤100000000:=by
        have h1:=congrArg List.length G
        rw[List.length_map]at h1
        have h2:=cD.out
        omega
       have b9:Hid _:=zKw kt w w.heap.size vH vU hp r.un t g i w1 A HH.out cL
       have F:Hid _:=G
       clear A G
       go_wp2_with fail
       refine Calls.mono b9.out ?_
       rintro e w5 ⟨rv,rfl,D,aX⟩
       have a6:Hid (Mk w5 w.heap.size (.slice af lf cf) (fsM r.fs)):=Mk.keep Z.out.fs D
       have a4:Hid (Mk w5 w.heap.size (.slice ac lc b1) (clM r.cl)):=Mk.keep Z.out.cl D
       clear D b9
       rcases aX with ⟨rfl,h1,h2,dM,j⟩|⟨kk,hm,j,hk⟩
       ·have Q:Hid (RO.run kt rt 0 (zh L (i+1)) RO.new={ r with hs:=r.hs++[t] }):=by
         show _=_
         rw[HS.out]
         unfold RO.step
         rw[a9.out]
         have h3:=zHk h1 h2
         rw[F.out]at h3
         simp only[h3]
        have u:Hid _:=j
        clear h1 h2 j
        go_wp2_with fail
        go_roundw
        case rel=>
         refine⟨i+1,_,_,by omega,rfl,rfl,by go_num,?_⟩
         rw[Q.out]
         exact⟨⟨_,_,hp++[(t,g)],u.out,by rw[List.map_append,F.out];rfl⟩,a6.out,a4.out⟩
        case measure=>simp[intOf];omega
       ·obtain⟨ma,mc,rfl⟩:=zA hm
        have HM:Hid _:=hm
        have u:Hid _:=j
        obtain⟨kn,cK,bH⟩:∃kn:Nat,kk=(kn:Int)∧jnK r.hs t=some kn:=by
         rw[←F.out]
         rcases hk with ⟨e,h1⟩|⟨e,h1,h2⟩
         ·exact⟨12,e,zNe h1⟩
         ·exact⟨13,e,zNf h1 h2⟩
        subst cK
        have Q:Hid (RO.run kt rt 0 (zh L (i+1)) RO.new={ r with cl:=match r.cl with|none=>some (kn,i)|some c=>some c }):=by
         show _=_
         rw[HS.out]
         unfold RO.step
         rw[a9.out]
         simp only[bH]
         cases r.cl<;>rfl
        clear hm j hk bH
        cases hcl:r.cl with
        |none=>
         have a2:lc=0:=by rw[←aG.out,hcl];rfl
         subst a2
         have R:Hid _:=hcl
         clear hcl
         go_wp2_with fail
         go_roundw
         case rel=>
          refine⟨i+1,_,_,by omega,rfl,rfl,by go_num,?_⟩
          rw[Q.out,R.out]
          exact⟨⟨_,_,hp,u.out,F.out⟩,a6.out,HM.out⟩
         case measure=>simp[intOf];omega
        |some c=>
         have a2:lc=1:=by rw[←aG.out,hcl];rfl
         subst a2
         have R:Hid _:=hcl
         clear hcl
         go_wp2_with fail
         go_roundw
         case rel=>
          refine⟨i+1,_,_,by omega,rfl,rfl,by go_num,?_⟩
          have bF:=a4.out
          rw[R.out]at bF
          rw[Q.out,R.out]
          exact⟨⟨_,_,hp,u.out,F.out⟩,a6.out,bF⟩
         case measure=>simp[intOf];omega
      ·have q6:((tT t).root.toList == rt.toList)=false:=zW b4
       have a9:Hid (sdE kt rt t=some (9,4)):=by
        show _=_
        unfold sdE
        rw[hrd,if_neg (by simp),if_neg bW.out,if_neg (show ¬(RS.on t).told.root=rt from b4)]
       clear b4
       go_wp2_with fail
       refine Calls.mono (zBg 9 4 w1) ?_
       rintro e w4 ⟨em,rfl,cJ,d0⟩
       obtain⟨ea,ec,rfl⟩:=zA cJ
       have HE:Hid (Mk w4 w.heap.size (.slice ea 1 ec) [(((9:Nat):Int),((4:Nat):Int))]):=zP cJ Z.out.bel.size
       have cE:Hid _:=Z.out.low d0
       clear cJ d0 g4
       obtain⟨vH,vU,hp,A,G⟩:=cE.out.rv
       have aR:=A.oU
       obtain⟨aU,cU,bQ⟩:=zA aR
       subst bQ
       have bP:r.un.length≤100000000:=Nat.le_trans bX.out (by omega)
       obtain⟨v',w5,W,j,aC,D⟩:=RV.miss A i bP
       have a1:w4.cell? ⟨w.heap.size,1,none⟩=some (.slice aU r.un.length cU):=cell_of_row _ _ _ _ 76 _ A.row
       have d4:w5.cell? ⟨w.heap.size,1,none⟩=some (.slice aU r.un.length cU):=cell_of_row _ _ _ _ 76 _ aC
       have d3:=frozen_of_row w5 w.heap.size 1 _ 76 aC
       obtain⟨aN,aO,bS⟩:=zA j.oU
       subst bS
       obtain⟨n2,aQ⟩:∃x,(r.un++[i]).length=x:=⟨_,rfl⟩
       rw[aQ]at W j D
       obtain⟨W5,a5⟩:∃X,w5.setCell ⟨w.heap.size,1,none⟩ (.slice aN n2 aO)=X:=⟨_,rfl⟩
       have b7:Hid (Mk W5 w.heap.size (.slice ea 1 ec) [(((9:Nat):Int),((4:Nat):Int))]):=by show Mk _ _ _ _;rw[←a5];exact Mk.keep HE.out D
       have a6:Hid (Mk W5 w.heap.size (.slice af lf cf) (fsM r.fs)):=by show Mk _ _ _ _;rw[←a5];exact Mk.keep cE.out.fs D
       have a4:Hid (Mk W5 w.heap.size (.slice ac lc b1) (clM r.cl)):=by show Mk _ _ _ _;rw[←a5];exact Mk.keep cE.out.cl D
       have u:Hid (RV kt w w.heap.size vH (.slice aN n2 aO) hp (r.un++[i]) W5):=by show RV _ _ _ _ _ _ _ _;rw[←a5];exact j
       have F:Hid _:=G
       have RR:Hid _:=W
       have Q:Hid (RO.run kt rt 0 (zh L (i+1)) RO.new={ r with un:=r.un++[i],fs:=if i=0 then some (9,4) else r.fs }):=by
        show _=_
        rw[HS.out]
        unfold RO.step
        rw[a9.out]
       clear A G aR W j aC D aQ
       go_wp2_with (at_builtin;refine zJ rfl (.tmp 59) (.tmp 61) 23 rfl _ _ _ (by simp[Act.eval]) (by simp[Act.eval]) _ RR.out ?_)
       ·have a8:Hid (i=0):=by show i=0;have hz:((i:Int) == 0)=true:=(by assumption);simp at hz;omega
        have aI:Hid _:=zAq 10 0 [(((9:Nat):Int),((4:Nat):Int))] (.slice ea 1 ec) w.heap.size W5 b7.out (by simp)
        refine Calls.mono aI.out ?_
        rintro e w6 ⟨fm,rfl,N,U⟩
        obtain⟨fa,fc,rfl⟩:=zA N
        have aE:Hid (Mk w6 w.heap.size _ [(10,0),(((9:Nat):Int),((4:Nat):Int))]):=zP N u.out.bel.size
        have aL:Hid _:=u.out.low U
        have b6:Hid _:=a4.out.keep (Kp250.below U)
        clear N U
        go_wp2_with fail
        go_roundw
        case rel=>
         refine⟨i+1,_,_,by omega,rfl,rfl,by go_num,?_⟩
         rw[Q.out,if_pos a8.out]
         exact⟨⟨_,_,hp,aL.out,F.out⟩,aE.out,b6.out⟩
        case measure=>simp[intOf];omega
       ·have a8:Hid (¬i=0):=by show ¬i=0;have hz:((i:Int) == 0)=false:=(by first|assumption|(have h9:¬((i:Int) == 0)=true:=(by assumption);simpa using h9));simp at hz;omega
        go_roundw
        case rel=>
         refine⟨i+1,_,_,by omega,rfl,rfl,by go_num,?_⟩
         rw[Q.out,if_neg a8.out]
         exact⟨⟨_,_,hp,u.out,F.out⟩,a6.out,a4.out⟩
        case measure=>simp[intOf];omega
    ·have bK:¬(i:Int)<(n:Int):=by omega
     obtain rfl:i=n:=by omega
     obtain⟨vH,vU,hp,A,G⟩:=HI.out.rv
     obtain⟨nh,bL⟩:∃x,(hp.map Prod.snd).length=x:=⟨_,rfl⟩
     obtain⟨aH,cH,cM⟩:=zA A.oH
     subst cM
     have a0:wr.cell? ⟨w.heap.size,0,none⟩=some (.slice aH nh cH):=by rw[←bL];exact cell_of_row _ _ _ _ 76 _ A.row
     have a7:Hid _:=A
     have F:Hid _:=G
     have bG:r.hs.length=nh:=by rw[←bL,←G];simp
     clear A G
     by_cases hz:nh=0
     ·have cP:((nh:Int) == 0)=true:=by simp;omega
      have aF:Hid (r.hs=[]):=List.length_eq_zero_iff.1 (bG.trans hz)
      have aI:Hid _:=zAq 11 i (fsM r.fs) (.slice af lf cf) w.heap.size wr HI.out.fs (by cases r.fs<;>simp[fsM])
      subst hz
      go_wp2_with fail
      refine Calls.mono aI.out ?_
      rintro e w6 ⟨fm,rfl,N,U⟩
      obtain⟨fa,fc,rfl⟩:=zA N
      have aE:Hid _:=zP N a7.out.bel.size
      have cC:Hid (Below w.heap.size w w6):=a7.out.bel.trans (U.mono a7.out.bel.size)
      clear N U
      go_wp2_with fail
      go_ret2
      exact⟨_,_,rfl,cC.out,.inr ⟨b0.out,.inl ⟨by rw[J.out];exact aF.out,rfl,by rw[J.out];exact aE.out⟩⟩⟩
     ·have cP:((nh:Int) == 0)=false:=by simp;omega
      have dK:¬(nh:Int)=0:=by omega
      have aF:Hid (r.hs≠[]):=fun e=>hz (by rw[←bG,e];rfl)
      clear hz
      cases hcl:r.cl with
      |none=>
       have a2:lc=0:=by rw[←aG.out,hcl];rfl
       subst a2
       have R:Hid _:=hcl
       clear hcl
       go_wp2_with fail
       go_ret2
       exact⟨_,_,rfl,a7.out.bel,.inr ⟨b0.out,.inr (.inr ⟨by rw[J.out];exact aF.out,by rw[J.out];exact R.out,rfl,_,_,_,hp,rfl,by rw[J.out];exact a7.out,by rw[J.out];exact F.out⟩)⟩⟩
      |some c=>
       have a2:lc=1:=by rw[←aG.out,hcl];rfl
       subst a2
       have R:Hid _:=hcl
       clear hcl
       go_wp2_with fail
       go_ret2
       exact⟨_,_,rfl,a7.out.bel,.inr ⟨b0.out,.inr (.inl ⟨by rw[J.out];exact aF.out,by rw[J.out,R.out];simp,rfl,by rw[J.out];exact HI.out.cl⟩)⟩⟩
end Go.Proofs.YtlopecgkiikdhaaGreatDoor
