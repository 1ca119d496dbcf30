import Derived.Test.YtlopecgkiikdhaaGreatDoorX14
import Derived.Test.YtlopecgkiikdhaaGreatDoorX04
import Derived.Deep.RegionLawGrows
import Derived.Test.YtlopecgkiikdhaaGreatDoorX07
namespace Go.Proofs.YtlopecgkiikdhaaGreatDoor
open Go.RowKit
set_option maxHeartbeats 400000
theorem zM2 (k i:Int)(w:World):
 Calls Tryz.prog 41 #[.int .i64 k,.int .i64 i] w fun e w'=>e=.returned (.iface 150 (.pointer (some ⟨w.heap.size,0,none⟩)))∧w'=w.alloc (.cells #[.int .i64 k,.int .i64 i,.nilIface] 152):=by
 go_enter Tryz.func41,Tryz.ntmps41
 go_wp2
 go_ret
 exact⟨rfl,rfl⟩
theorem zHB (k i:Int)(w:World):
 Calls Tryz.prog 18 #[.int .i64 k,.int .i64 i] w fun e w'=>e=.returned (.slice (some ⟨w.heap.size,0,none⟩) 1 1)∧w'=w.alloc (.cells #[.int .i64 k,.int .i64 i] 121):=by
 go_enter Tryz.func18,Tryz.ntmps18
 go_wp2
 go_ret
 exact⟨rfl,rfl⟩
theorem zHf:(Tryz.prog.info? 121).map (fun i=>(i.zero,i.size,i.bytes))=some (some (.agg #[.int .i64 0,.int .i64 0]),2,16):=by kernel_rfl
theorem zFC (a b:Int):∀u∈[Value.int .i64 a,Value.int .i64 b],u.oneCell'=true:=by
 intro u j;simp at j;rcases j with rfl|rfl<;>rfl
theorem zFB (w:World)(a b:Value)(t:TypeId):∀j u,[a,b][j]? =some u→(w.alloc (.cells #[a,b] t)).cell? ((⟨w.heap.size,0,none⟩:Addr).add j)=some u:=by
 intro j u A
 have e:((⟨w.heap.size,0,none⟩:Addr).add j)=⟨w.heap.size,j,none⟩:=by simp[Addr.add];exact fun h=>h.symm
 rw[e,cell_of_row _ _ _ _ t _ (heap_alloc_new w _)]
 match j with
 |0=>exact A
 |1=>exact A
 |j+2=>simp at A
set_option maxRecDepth 100000
set_option maxHeartbeats 4000000
def ErrAt (w:World):Value→List (Int×Int)→Prop
 |v,[]=>v=.nilIface
 |v,p::l=>∃e u,v=.iface 150 (.pointer (some ⟨e,0,none⟩))∧w.heap[e]? =some (.cells #[.int .i64 p.1,.int .i64 p.2,u] 152 (0,0))∧ErrAt w u l
theorem ErrAt.kept {w w':World}(hk:∀(e:Nat) (j:Array Value),w.heap[e]? =some (.cells j 152 (0,0))→w'.heap[e]? =w.heap[e]?):∀{l:List (Int×Int)} {v:Value},ErrAt w v l→ErrAt w' v l
 |[],_,h=>h
 |_::_,_,⟨e,u,h1,h2,h3⟩=>⟨e,u,h1,(hk e _ h2).trans h2,ErrAt.kept hk h3⟩
theorem ErrAt.below {w w':World}{l:List (Int×Int)}{v:Value}(h:ErrAt w v l)(hb:Below w.heap.size w w'):ErrAt w' v l:=
 h.kept fun e _ j=>hb.block e (Array.getElem?_eq_some_iff.1 j).1
theorem ErrAt.uniq {w:World}:∀{l j:List (Int×Int)} {v:Value},ErrAt w v l→ErrAt w v j→l=j
 |[],[],_,_,_=>rfl
 |[],p::l,v,h,⟨e,u,h1,_⟩=>by rw[show v=.nilIface from h]at h1;cases h1
 |p::l,[],v,⟨e,u,h1,_⟩,h=>by rw[show v=.nilIface from h]at h1;cases h1
 |p::l,q::j,v,⟨e,u,h1,h2,h3⟩,⟨e',u',h1',h2',h3'⟩=>by
  rw[h1]at h1'
  simp only[Value.iface.injEq,Value.pointer.injEq,Option.some.injEq,Addr.mk.injEq,true_and,and_true]at h1'
  subst h1'
  rw[h2]at h2'
  simp only[Option.some.injEq,Obj.cells.injEq,Array.mk.injEq,List.cons.injEq,Value.int.injEq,true_and,and_true]at h2'
  obtain⟨A,D,a3⟩:=h2'
  subst a3
  rw[ErrAt.uniq h3 h3',Prod.ext A D]
theorem zKZ:∃μ:World→Value→Nat,∀w v l,ErrAt w v l→μ w v=l.length:=by
 classical
 refine⟨fun w v=>if h:∃l,ErrAt w v l then h.choose.length else 0,fun w v l h=> ?_⟩
 have j:∃l,ErrAt w v l:=⟨l,h⟩
 simp only[dif_pos j]
 rw[ErrAt.uniq j.choose_spec h]
def mkL (l:List (Int×Int)):List Value:=l.flatMap fun p=>[.int .i64 p.1,.int .i64 p.2]
theorem zDO (l:List (Int×Int))(p:Int×Int):mkL (l++[p])=mkL l++[.int .i64 p.1,.int .i64 p.2]:=by simp[mkL]
theorem zEw:∀(l:List (Int×Int)) (i:Nat) (h:i<l.length),(mkL l)[i*2]? =some (.int .i64 l[i].1)∧(mkL l)[i*2+1]? =some (.int .i64 l[i].2)
 |[],i,h=>by simp at h
 |p::l,0,_=>by simp[mkL]
 |p::l,i+1,h=>by
  have A:=zEw l i (by simpa using h)
  have j:(i+1)*2=i*2+2:=by omega
  have u:mkL (p::l)=.int .i64 p.1:: .int .i64 p.2::mkL l:=by simp[mkL]
  rw[j,u]
  simpa using A
theorem zHv (l:List (Int×Int))(v:Value)(w:World)(hg:w.cell? ⟨1,0,none⟩=some (.iface 238 (.agg #[.pointer (some ⟨7,41,none⟩)])))(hE:ErrAt w v l)(hl:l.length≤1000):
 Calls Tryz.prog 53 #[v] w fun ev w'=>∃a c,ev=.returned (.slice a l.length c)∧w'.ownsRow w.heap.size 121 2 (.slice a l.length c) l.length (mkL l)∧Below w.heap.size w w':=by
 obtain⟨μ,hμ⟩:=zKZ
 have HM:Hid _:=hμ
 have aY:1<w.heap.size:=block_lt_of_cell hg
 obtain⟨i0,aH,b2,b3,b4⟩:=info_parts zHf
 have HE:Hid _:=hE
 have aQ:Hid _:=hg
 have HL:Hid _:=hl
 clear hE hg hl hμ
 go_enter Tryz.func53,Tryz.ntmps53
 go_wp2
 go_loopw [0,3] (fun ev mv wr=>∃(dn rs:List (Int×Int)) (old vv mm:Value),vv=ev∧mm=mv∧dn++rs=l∧ErrAt w vv rs∧wr.ownsRow w.heap.size 121 2 mm dn.length (mkL dn)∧wr.heap[w.heap.size+1]? =some (.cells #[old] 150 (0,0))∧Below w.heap.size w wr) (fun ev _ _=>μ w ev)
 case atStart=>
  refine⟨[],l,.pointer none,_,_,rfl,rfl,rfl,HE.out,?_,?_,((Below.refl _ _).alloc (Nat.le_refl _) _).alloc (by simp) _⟩
  ·refine⟨rfl,.inr ⟨w.heap.size,0,#[],rfl,Nat.le_refl _,?_,Nat.le_refl _,by simp,rfl,rfl⟩⟩
   rw[heap_alloc_old _ _ (by simp)];exact heap_alloc_new _ _
  ·have:=heap_alloc_new (w.alloc (Obj.cells #[] 121)) (Obj.cells #[Value.pointer none] 150)
   simpa using this
 case round=>
  obtain⟨dn,rs,old,vv,mm,rfl,rfl,hd,a5,j,A,hb⟩:=hrel
  cases rs with
  |nil=>
   have e:vv=.nilIface:=a5
   subst e
   have aV:dn=l:=by simpa using hd
   subst aV
   obtain⟨a,c,hs⟩:=zA j
   subst hs
   have HO:Hid _:=j
   have HB:Hid _:=hb
   clear j hb A hd a5
   go_wp2_with fail
   refine (zHA _ _).mono ?_
   rintro e w' ⟨rfl,rfl⟩
   go_wp2
   go_ret
   exact⟨a,c,rfl,HO.out,HB.out⟩
  |cons p rs=>
   obtain⟨e,u,aW,a4,aE⟩:=a5
   subst aW
   have U:e<w.heap.size:=(Array.getElem?_eq_some_iff.1 a4).1
   obtain⟨a,c,hs⟩:=zA j
   subst hs
   have HO:Hid (wr.ownsRow w.heap.size 121 2 (.slice a dn.length c) dn.length (mkL dn)):=j
   have HB:Hid (Below w.heap.size w wr):=hb
   have HU:Hid (ErrAt w u rs):=aE
   have HH:Hid (w.heap[e]? =some (.cells #[.int .i64 p.1,.int .i64 p.2,u] 152 (0,0))):=a4
   have HD:Hid (dn++p::rs=l):=hd
   have aG:wr.cell? ⟨1,0,none⟩=some (.iface 238 (.agg #[.pointer (some ⟨7,41,none⟩)])):=(hb.cell (p:=⟨1,0,none⟩) aY).trans aQ.out
   have aK:wr.cell? ⟨w.heap.size+1,0,none⟩=some old:=cell_of_row _ _ _ _ 150 _ A
   have aF:wr.frozen? ⟨w.heap.size+1,0,none⟩=false:=frozen_of_row _ _ _ _ 150 A
   have HT:Hid (wr.heap[w.heap.size+1]? =some (.cells #[old] 150 (0,0))):=A
   have aN:w.heap.size+1<wr.heap.size:=(Array.getElem?_eq_some_iff.1 A).1
   have bH:dn.length+1≤1000:=by have:=congrArg List.length HD.out;simp at this;have:=HL.out;omega
   clear hb A j hd a4 aE
   go_wp2_with fail
   refine (zKS ⟨e,0,none⟩ ⟨w.heap.size+1,0,none⟩ old wr aG aK aF).mono ?_
   rintro bG F ⟨rfl,Q⟩
   have hr:Below wr.heap.size wr (asD wr ⟨w.heap.size+1,0,none⟩ ⟨e,0,none⟩):=((((Below.refl _ _).alloc (Nat.le_refl _) _).alloc (by simp) _).alloc (by simp;omega) _).alloc (by simp;omega) _
   obtain⟨W,hW⟩:∃W,asD wr ⟨w.heap.size+1,0,none⟩ ⟨e,0,none⟩=W:=⟨_,rfl⟩
   rw[hW]at Q hr
   have a6:W.heap[w.heap.size+1]? =some (.cells #[old] 150 (0,0)):=by rw[hr.block _ aN];exact HT.out
   have R:Hid (F.heap[w.heap.size+1]? =some (.cells #[.pointer (some ⟨e,0,none⟩)] 150 (0,0))):=by
    show F.heap[w.heap.size+1]? =_
    rw[Q];exact heap_setCell_same W (w.heap.size+1) 0 _ 150 _ a6
   have X:Hid (Below w.heap.size w F):=by
    show Below _ _ _
    rw[Q];exact (HB.out.trans (hr.mono HB.out.size)).setCell (by simp) _
   have Z:Hid (F.ownsRow w.heap.size 121 2 (.slice a dn.length c) dn.length (mkL dn)):=by
    show World.ownsRow _ _ _ _ _ _ _
    rw[Q]
    refine ownsRow_setCell_other (zI HO.out hr) (fun e'=> ?_) _
    obtain⟨cur,hc⟩:=zB (zI HO.out hr) _ e'
    rw[a6]at hc;simp at hc
   clear Q hW hr a6 aG aK aF HT HO
   have G:F.heap[e]? =some (.cells #[.int .i64 p.1,.int .i64 p.2,u] 152 (0,0)):=by rw[X.out.block e U];exact HH.out
   have a1:F.cell? ⟨e,0,none⟩=some (.int .i64 p.1):=cell_of_row _ _ _ _ 152 _ G
   have aA:F.cell? ⟨e,1,none⟩=some (.int .i64 p.2):=cell_of_row _ _ _ _ 152 _ G
   have aB:F.cell? ⟨e,2,none⟩=some u:=cell_of_row _ _ _ _ 152 _ G
   have c1:F.cell? ⟨w.heap.size+1,0,none⟩=some (.pointer (some ⟨e,0,none⟩)):=cell_of_row _ _ _ _ 150 _ R.out
   have aM:w.heap.size≤F.heap.size:=X.out.size
   have bC:e<F.heap.size:=by omega
   have aL:w.heap.size+1<F.heap.size:=(Array.getElem?_eq_some_iff.1 R.out).1
   have aZ:dn.length+1≤maxLen:=by unfold maxLen;omega
   have b0:(dn.length+1)*16≤140737488355328:=by omega
   have aI:=World.new_ne F _ c1
   have aJ:=World.new_ne F _ a1
   obtain⟨k,i⟩:=p
   clear G
   go_wp2
   go_region_held3 (fun w'=>w'.cell? ⟨w.heap.size+1,0,none⟩=some (.pointer (some ⟨e,0,none⟩))∧w'.cell? ⟨e,0,none⟩=some (.int .i64 k)∧w'.cell? ⟨e,1,none⟩=some (.int .i64 i)) (go_keep) (first|(refine zAM rfl (.tmp 9) (.tmp 19) 47 rfl 121 i0 (.agg #[.int .i64 0,.int .i64 0]) 2 16 Tryz.underlying47 aH b2 b3 b4 rfl (by decide) w.heap.size (.slice a dn.length c) dn.length (mkL dn) (by simp[Act.eval]) (by exact (Z.out.alloc _).drew) ⟨F.heap.size,0,none⟩ 1 1 [.int .i64 k,.int .i64 i] (by simp[Act.eval]) rfl (by exact zFB _ _ _ _) (zFC _ _) aZ b0 (by show w.heap.size≤(F.alloc _).heap.size;simp;omega) ?_;intro v3 w3 N D;have J:Below w.heap.size F w3:=(((Below.refl _ _).alloc aM _).drew).grown D (by show w.heap.size≤(F.alloc _).heap.size;simp;omega) (fun q hq=>zK Z.out q hq);have a2:w3.heap[w.heap.size+1]? =some (.cells #[.pointer (some ⟨e,0,none⟩)] 150 (0,0)):=(zCE D (w.heap.size+1) aL (fun q hq e'=>by obtain⟨cur,hc⟩:=zB Z.out q hq;rw[e',R.out]at hc;simp at hc)).trans R.out;have d1:w3.cell? ⟨w.heap.size+1,0,none⟩=some (.pointer (some ⟨e,0,none⟩)):=cell_of_row _ _ _ _ 150 _ a2;have d2:=(J.cell (p:=⟨e,0,none⟩) U).trans a1;have d3:=(J.cell (p:=⟨e,1,none⟩) U).trans aA))
   have d4:=(J.cell (p:=⟨e,2,none⟩) U).trans aB
   have aR:Hid (w3.ownsRow w.heap.size 121 2 v3 (dn.length+1) (mkL dn++[.int .i64 k,.int .i64 i])):=N
   have aP:Hid (Below w.heap.size w w3):=X.out.trans J
   have aS:Hid (w3.heap[w.heap.size+1]? =some (.cells #[.pointer (some ⟨e,0,none⟩)] 150 (0,0))):=a2
   clear N D J a2 c1 a1 aA aB aI aJ
   go_wp2
   go_roundw
   case rel=>
    refine⟨dn++[(k,i)],rs,_,_,_,rfl,rfl,by rw[←HD.out];simp,HU.out,?_,aS.out,aP.out⟩
    rw[zDO]
    have:=aR.out
    simpa using this
   case measure=>
    rw[HM.out w u rs HU.out,HM.out w _ ((k,i)::rs) ⟨e,u,rfl,HH.out,HU.out⟩]
    simp
theorem zGN (l:List (Int×Int))(v:Value)(w:World)(u:w.cell? ⟨1,0,none⟩=some (.iface 238 (.agg #[.pointer (some ⟨7,41,none⟩)])))(j:ErrAt w v l)(hl:l.length≤1000):
 Calls Tryz.prog 22 #[v] w fun A w'=>∃a c,A=.returned (.slice a l.length c)∧w'.ownsRow w.heap.size 121 2 (.slice a l.length c) l.length (mkL l)∧Below w.heap.size w w':=by
 have H:Hid _:=zHv l v w u j hl
 clear u j hl
 go_enter Tryz.func22,Tryz.ntmps22
 go_wp2_with fail
 refine Calls.mono H.out ?_
 rintro e G ⟨a,c,rfl,D,F⟩
 go_wp2
 go_ret
 exact⟨a,c,rfl,D,F⟩
theorem zDP {w:World}{B c:Nat}{a:Option Addr}{l:List (Int×Int)}(h:w.ownsRow B 121 2 (.slice a l.length c) l.length (mkL l))(i:Nat)(hi:i<l.length):
 ∃g,a=some ⟨g,0,none⟩∧g<w.heap.size∧w.cell? ⟨g,i*2,none⟩=some (.int .i64 l[i].1)∧w.cell? ⟨g,i*2+1,none⟩=some (.int .i64 l[i].2):=by
 rcases h.2 with ⟨_,G⟩|⟨g,u,cur,j,hb,F,_⟩
 ·omega
 ·obtain rfl:a=some ⟨g,0,none⟩:=by simp at j;exact j.1
  have A:=h.cellAt (i*2) (by omega)
  have D:=h.cellAt (i*2+1) (by omega)
  exact⟨g,rfl,(Array.getElem?_eq_some_iff.1 F).1,A.trans (zEw l i hi).1,D.trans (zEw l i hi).2⟩
theorem zCV (l:List (Int×Int))(R U:Option Addr)(c1 c2 B1 B2:Nat)(w:World)(W:w.ownsRow B1 121 2 (.slice R l.length c1) l.length (mkL l))(X:w.ownsRow B2 121 2 (.slice U l.length c2) l.length (mkL l))(hl:l.length≤1000):
 Calls Tryz.prog 23 #[.slice R l.length c1,.slice U l.length c2] w fun e w'=>e=.returned (.bool true)∧∃q,w'=w.drewN q:=by
 have H1:Hid _:=fun i hi=>zDP W i hi
 have H2:Hid _:=fun i hi=>zDP X i hi
 obtain⟨n,G⟩:∃n,l.length=n:=⟨_,rfl⟩
 clear W X
 rw[G]at hl ⊢
 have HN:Hid _:=G
 clear G
 go_enter Tryz.func23,Tryz.ntmps23
 go_wp2
 go_loopw [5] (fun J wr=>∃i q:Nat,i≤n∧J=.int .i64 i∧wr=w.drewN q) (fun J _=>n-(intOf J).toNat)
 case atStart=>exact⟨0,0,by omega,rfl,rfl⟩
 case round=>
  obtain⟨i,q,hi,rfl,u⟩:=hrel
  by_cases F:i<n
  ·have j:i<l.length:=by rw[HN.out];exact F
   obtain⟨g1,A,_,N,Q⟩:=H1.out i j
   obtain⟨g2,D,_,y1,y2⟩:=H2.out i j
   subst A
   subst D
   obtain⟨k,hk⟩:∃k,l[i].1=k:=⟨_,rfl⟩
   obtain⟨m,hm⟩:∃m,l[i].2=m:=⟨_,rfl⟩
   rw[hk]at N y1
   rw[hm]at Q y2
   have e1:wr.cell? ⟨g1,i*2,none⟩=some (.int .i64 k):=by rw[u];exact N
   have e2:wr.cell? ⟨g1,i*2+1,none⟩=some (.int .i64 m):=by rw[u];exact Q
   have e3:wr.cell? ⟨g2,i*2,none⟩=some (.int .i64 k):=by rw[u];exact y1
   have e4:wr.cell? ⟨g2,i*2+1,none⟩=some (.int .i64 m):=by rw[u];exact y2
   have HQ:Hid _:=u
   clear u hk hm N Q y1 y2
   have Z:(0:Int)≤(i:Int):=by omega
   have a4:(i:Int)<(n:Int):=by omega
   go_wp2
   go_quiet (fail)
   go_wp2
   go_roundw
   case rel=>exact⟨i+1,q+nq,by omega,by go_num,by rw[HQ.out];simp[World.drewN,Nat.add_assoc]⟩
   case measure=>simp[intOf];omega
  ·go_wp2
   go_ret
   exact⟨rfl,q,rfl⟩
theorem zCd (l:List (Int×Int))(e v:Value)(B:Nat)(w:World)(hg:w.cell? ⟨1,0,none⟩=some (.iface 238 (.agg #[.pointer (some ⟨7,41,none⟩)])))(J:ErrAt w e l)(U:w.ownsRow B 121 2 v l.length (mkL l))(hl:l.length≤1000):
 Calls Tryz.prog 11 #[e,v] w fun ev w'=>ev=.returned (.bool true)∧Below w.heap.size w w':=by
 have H:Hid _:=zGN l e w hg J hl
 obtain⟨a,c,hs⟩:=zA U
 subst hs
 have Z:Hid _:=U
 have X:Hid _:=hl
 have R:(l=[]∧e=.nilIface)∨(l≠[]∧∃g,e=.iface 150 (.pointer (some ⟨g,0,none⟩))):=by
  cases l with
  |nil=>exact .inl ⟨rfl,J⟩
  |cons p r=>obtain⟨g,u,h1,_⟩:=J;exact .inr ⟨by simp,g,h1⟩
 obtain⟨n,j⟩:∃n,l.length=n:=⟨_,rfl⟩
 have D:(l=[]→n=0)∧(l≠[]→n≠0):=by rw[←j];exact⟨fun h=>by rw[h];rfl,fun h e=>h (List.length_eq_zero_iff.1 e)⟩
 have HN:Hid _:=j
 clear hg J U hl
 rcases R with ⟨Q,rfl⟩|⟨Q,g,rfl⟩
 ·have F:=D.1 Q
  subst F
  go_enter Tryz.func11,Tryz.ntmps11
  go_wp2_with fail
  refine Calls.mono H.out ?_
  rintro e W ⟨N,c1,rfl,G,hb⟩
  have HB:Hid _:=hb
  have A:Hid _:=zCV l N a c1 c _ _ W G (zI Z.out hb) X.out
  clear G hb
  rw[j]at A ⊢
  clear j
  go_wp2_with fail
  refine Calls.mono A.out ?_
  rintro e w2 ⟨rfl,q,rfl⟩
  go_wp2
  go_ret
  exact⟨rfl,below_drewN HB.out q⟩
 ·have F:=D.2 Q
  have a6:((n:Int) == 0)=false:=by simp;omega
  go_enter Tryz.func11,Tryz.ntmps11
  go_wp2_with fail
  refine Calls.mono H.out ?_
  rintro e W ⟨N,c1,rfl,G,hb⟩
  have HB:Hid _:=hb
  have A:Hid _:=zCV l N a c1 c _ _ W G (zI Z.out hb) X.out
  clear G hb
  rw[j]at A ⊢
  clear j
  go_wp2_with fail
  refine Calls.mono A.out ?_
  rintro e w2 ⟨rfl,q,rfl⟩
  go_wp2
  go_ret
  exact⟨rfl,below_drewN HB.out q⟩
theorem zBg (k i:Int)(w:World):Calls Tryz.prog 18 #[.int .i64 k,.int .i64 i] w fun e w'=>∃v,e=.returned v∧w'.ownsRow w.heap.size 121 2 v 1 (mkL [(k,i)])∧Below w.heap.size w w':=by
 refine (zHB k i w).mono ?_
 rintro e w' ⟨rfl,rfl⟩
 refine⟨_,rfl,⟨rfl,.inr ⟨w.heap.size,1,#[.int .i64 k,.int .i64 i],rfl,Nat.le_refl _,heap_alloc_new _ _,Nat.le_refl _,by unfold maxLen;omega,rfl,rfl⟩⟩,(Below.refl _ _).alloc (Nat.le_refl _) _⟩
theorem zAq (k i:Int)(l:List (Int×Int))(v:Value)(B:Nat)(w:World)(X:w.ownsRow B 121 2 v l.length (mkL l))(hl:l.length≤1000):
 Calls Tryz.prog 20 #[.int .i64 k,.int .i64 i,v] w fun e w'=>∃v',e=.returned v'∧w'.ownsRow w.heap.size 121 2 v' (l.length+1) (mkL ((k,i)::l))∧Below w.heap.size w w':=by
 have HA:Hid _:=zBg k i w
 obtain⟨a,c,hs⟩:=zA X
 subst hs
 have HV:Hid _:=X
 have HC:Hid _:=fun j hj=>zDP X j hj
 obtain⟨i0,N,aB,aC,aD⟩:=info_parts zHf
 obtain⟨n,hn⟩:∃n,l.length=n:=⟨_,rfl⟩
 have HN:Hid _:=hn
 rw[hn]at hl ⊢
 clear X hn
 go_enter Tryz.func20,Tryz.ntmps20
 go_wp2_with fail
 refine Calls.mono HA.out ?_
 rintro e w1 ⟨v1,rfl,Q,G⟩
 have a2:Hid _:=Q
 have Z:Hid _:=G
 clear Q G HA
 go_wp2
 go_loopw [7,8] (fun ov jv wr=>∃j:Nat,j≤n∧jv=.int .i64 j∧wr.ownsRow w.heap.size 121 2 ov (j+1) (mkL ((k,i)::l.take j))∧Below w.heap.size w wr) (fun _ jv _=>n-(intOf jv).toNat)
 case atStart=>exact⟨0,by omega,rfl,by rw[List.take_zero];exact a2.out,Z.out⟩
 case round=>
  obtain⟨j,hj,rfl,W,hb⟩:=hrel
  obtain⟨ao,co,hs⟩:=zA W
  subst hs
  have U:Hid (wr.ownsRow w.heap.size 121 2 (.slice ao (j+1) co) (j+1) (mkL ((k,i)::l.take j))):=W
  have HB:Hid (Below w.heap.size w wr):=hb
  by_cases a5:j<n
  ·have F:j<l.length:=by rw[HN.out];exact a5
   obtain⟨g,ha,J,x1,x2⟩:=HC.out j F
   subst ha
   obtain⟨p,hp⟩:∃p,l[j]=p:=⟨_,rfl⟩
   rw[hp]at x1 x2
   obtain⟨D,R⟩:=p
   have HT:Hid (l.take (j+1)=l.take j++[(D,R)]):=by show l.take (j+1)=_;rw[List.take_succ_eq_append_getElem F,hp]
   have e1:wr.cell? ⟨g,j*2,none⟩=some (.int .i64 D):=(hb.cell (p:=⟨g,j*2,none⟩) J).trans x1
   have e2:wr.cell? ⟨g,j*2+1,none⟩=some (.int .i64 R):=(hb.cell (p:=⟨g,j*2+1,none⟩) J).trans x2
   have aA:w.heap.size≤wr.heap.size:=hb.size
   have a6:j+1+1≤maxLen:=by unfold maxLen;omega
   have a7:(j+1+1)*16≤140737488355328:=by omega
   have aJ:(0:Int)≤(j:Int):=by omega
   have aK:(j:Int)<(n:Int):=by omega
   clear W hb x1 x2 hp
   go_wp2_with (at_builtin;refine wpList_append_own _ rfl (.tmp 18) (.tmp 23) 48 rfl w.heap.size 121 i0 (.agg #[.int .i64 0,.int .i64 0]) 2 16 Tryz.underlying48 N aB aC aD rfl (by decide) _ (j+1) (mkL ((k,i)::l.take j)) (by simp[Act.eval];rfl) (by exact U.out.alloc _) ⟨wr.heap.size,0,none⟩ 1 1 [.int .i64 D,.int .i64 R] (by simp[Act.eval]) rfl (by exact zFB _ _ _ _) (zFC _ _) a6 a7 (by simp;omega) ?_;intro v3 w3 A u a9;clear a9)
   have a1:Hid (Below w.heap.size w w3):=(HB.out.alloc aA _).grown u (by simp;omega) (fun q hq=>zK U.out q hq)
   have a4:Hid _:=A
   clear A u
   go_wp2
   go_roundw
   case rel=>
    refine⟨j+1,by omega,by go_num,?_,a1.out⟩
    have e:mkL ((k,i)::(l.take j++[(D,R)]))=mkL ((k,i)::l.take j)++[.int .i64 D,.int .i64 R]:=by rw[←List.cons_append,zDO]
    rw[HT.out,e]
    exact a4.out
   case measure=>simp[intOf];omega
  ·have e:j=n:=by omega
   subst e
   have ht:l.take j=l:=List.take_of_length_le (by have:=HN.out;omega)
   rw[ht]at U
   clear W hb
   go_wp2
   go_ret
   exact⟨_,rfl,U.out,HB.out⟩
end Go.Proofs.YtlopecgkiikdhaaGreatDoor
