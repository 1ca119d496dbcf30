import Derived.Test.YtlopecgkiikdhaaGreatDoorX18
namespace Go.Proofs.YtlopecgkiikdhaaGreatDoor
open Go.RowKit
set_option maxRecDepth 100000
set_option maxHeartbeats 4000000
def zG5 (T:TT)(rest:ByteArray)(B g:Nat)(w:World):Prop:=∃aE kE q,w.heap[g]? =some (.cells (zBE T.root T.lst T.L.K T.L.M T.L.C T.L.V (.slice aE T.L.es.length kE) T.lv T.num T.first (.slice (some ⟨q,0,none⟩) (rest.size/T.L.C) (rest.size/T.L.C))) 157 (0,0))∧B≤g∧B≤q∧Rw w q (rest.size/T.L.C) 9 (tX (pc rest T.L.C))∧w.ownsRow B 131 2 (.slice aE T.L.es.length kE) T.L.es.length (enV T.L.es)
def zM4 (k p:Nat)(e:Ending)(w:World):Prop:=∃q,e=.returned (.tuple #[.pointer none,.iface 150 (.pointer (some ⟨q,0,none⟩))])∧w.heap[q]? =some (.cells #[.int .i64 k,.int .i64 p,.nilIface] 152 (0,0))
def RdDid (kt:Nat→Int)(t:ByteArray)(w:World)(e:Ending)(w':World):Prop:=Below w.heap.size w w'∧(∀k p,rdE kt t=some (k,p)→zM4 k p e w')∧(rdE kt t=none→∃g,e=.returned (.tuple #[.pointer (some ⟨g,0,none⟩),.nilIface])∧zG5 (RS.on t).told (zX t) w.heap.size g w')
theorem RdDid.bad {kt:Nat→Int}{t:ByteArray}{w w':World}{k p q:Nat}(h:rdE kt t=some (k,p))(hb:Below w.heap.size w w')(u:w'.heap[q]? =some (.cells #[.int .i64 k,.int .i64 p,.nilIface] 152 (0,0))):RdDid kt t w (.returned (.tuple #[.pointer none,.iface 150 (.pointer (some ⟨q,0,none⟩))])) w':=
 ⟨hb,fun k' A j=>by rw[h]at j;cases j;exact⟨q,rfl,u⟩,fun j=>by rw[h]at j;cases j⟩
theorem RdDid.good {kt:Nat→Int}{t:ByteArray}{w w':World}{g:Nat}(h:rdE kt t=none)(hb:Below w.heap.size w w')(u:zG5 (RS.on t).told (zX t) w.heap.size g w'):RdDid kt t w (.returned (.tuple #[.pointer (some ⟨g,0,none⟩),.nilIface])) w':=
 ⟨hb,fun k p j=>(by rw[h]at j;cases j),fun _=>⟨g,rfl,u⟩⟩
theorem zW {a b:ByteArray}(h:a≠b):(a.toList == b.toList)=false:=by
 rw[beq_eq_false_iff_ne]
 intro e
 exact h (ByteArray.ext (by rw[ByteArray.toList_eq,ByteArray.toList_eq]at e;exact Array.toList_inj.1 e))
theorem zS {a b:ByteArray}(h:a=b):(a.toList == b.toList)=true:=by subst h;simp
structure RdSt (w:World)(r g:Nat)(T:TT)(aE:Option Addr)(kE:Nat)(st:RS)(X:World):Prop where
 vol:X.heap[g]? =some (.cells (zBE T.root T.lst T.L.K T.L.M T.L.C T.L.V (.slice aE T.L.es.length kE) T.lv T.num 0 (.slice none 0 0)) 157 (0,0))
 own:X.ownsRow w.heap.size 131 2 (.slice aE T.L.es.length kE) T.L.es.length (enV T.L.es)
 fr:Fr (fun j=>j=r) w X
 ri:RI r st X
theorem RdSt.next {w:World}{r g:Nat}{T:TT}{u:Option Addr}{G:Nat}{st j:RS}{X Y:World}(h:RdSt w r g T u G st X)(hd:RDid r j X Y):RdSt w r g T u G j Y where
 vol:=by rw[hd.2.old g (Array.getElem?_eq_some_iff.1 h.vol).1 (fun e=>by have A:=h.vol;rw[e,h.ri.row]at A;simp at A)];exact h.vol
 own:=zD h.own (fun q F=>hd.2.old q (zG h.own q F) (fun e=>by
  obtain⟨cur,J⟩:=zB h.own q F
  have D:=h.ri.row
  rw[←e,J]at D;simp at D))
 fr:=h.fr.trans' hd.2
 ri:=hd.1
theorem RdSt.low {w:World}{r g:Nat}{T:TT}{j:Option Addr}{u:Nat}{st:RS}{X Y:World}(h:RdSt w r g T j u st X)(hb:Below X.heap.size X Y):RdSt w r g T j u st Y:=h.next (RDid.same h.ri hb)
theorem zO3 (kt:Nat→Int)(t:ByteArray)(w:World)(hG:Gd kt w)(ht:t.size≤140737488351232):Calls Tryz.prog 72 #[.string t] w fun e w'=>RdDid kt t w e w':=by
 have HG:Hid _:=hG
 clear hG
 by_cases a5:60000<t.size
 ·have hE:rdE kt t=some (4,t.size):=by unfold rdE;rw[if_pos a5]
  have HE:Hid _:=hE
  clear hE
  have bO:(60000:Int)<(t.size:Int):=by omega
  go_enter Tryz.func72,Tryz.ntmps72
  go_wp2_with fail
  refine Calls.mono (zAk 4 _ w) ?_
  rintro e w1 ⟨q,rfl,F,A⟩
  have Z:Hid _:=F
  have HB:Hid _:=A
  clear F A
  go_wp2_with fail
  go_ret2
  exact RdDid.bad HE.out HB.out Z.out
 ·have bO:¬(60000:Int)<(t.size:Int):=by omega
  obtain⟨T,hT⟩:∃T,(RS.on t).told=T:=⟨_,rfl⟩
  obtain⟨ck,aH⟩:∃x,(tCk t).2=x:=⟨_,rfl⟩
  obtain⟨W,J⟩:∃x,(tCk t).1=x:=⟨_,rfl⟩
  obtain⟨td,aK⟩:∃x,zMo t=x:=⟨_,rfl⟩
  have hk:T.st.bytes 32=(W,ck):=by rw[←hT,←J,←aH];rfl
  have b3:T.st.text=t:=by rw[←hT];exact (zGA (RS.on t)).1
  have U:T.st.text.extract 0 T.st.next=td:=by rw[b3,←aK,←hT];rfl
  have cH:td.size≤60000:=by rw[←U,ByteArray.size_extract,b3];omega
  have cF:T.lst.size≤60000:=by have h1:=zKH (RS.on t);rw[hT]at h1;have h2:(RS.on t).text.size=t.size:=rfl;omega
  have HE:Hid (rdE kt t=if W.wrong then some (7,W.field) else if ck=ofT kt (⟨#[3]⟩++td) then (if T.root=zAX (ofT kt) T.lst T.L.cnt (pc T.lv 32) then (if T.size<(zX t).size then some (7,W.next+T.size) else none) else some (9,4)) else some (8,T.st.next)):=by
   show _=_
   unfold rdE
   rw[if_neg a5,J,aH,aK,hT]
  have HL:Hid (W.wrong=false→zt T):=fun h=>by rw[←hT];exact zAz (by rw[J];exact h)
  have aS:Hid (T.L.es.length≤16∧zM T.L.es≤4096):=by rw[←hT];exact zAQ _
  have bH:Hid ((tCk t).1=W):=J
  have aV:Hid (W.text=t):=by rw[←J];exact zLR t
  go_enter Tryz.func72,Tryz.ntmps72
  go_wp2_with fail
  refine Calls.mono (zP3 t w (by omega)) ?_
  rintro e w1 ⟨r,rfl,hr,hI,A⟩
  have aU:Hid (w.heap.size≤r):=hr
  have bE:Hid (RI r (RS.on t) w1):=hI
  have a7:Hid _:=A
  clear hr hI A
  go_wp2_with fail
  refine Calls.mono (zPM r (RS.on t) w1 bE.out) ?_
  rintro e w2 ⟨g,vE,rfl,hg,hV,hO,hD⟩
  obtain⟨aE,kE,rfl⟩:=zA hO
  rw[hT]at hV hO hD
  have aR:Hid (w.heap.size≤g):=Nat.le_trans a7.out.size hg
  have H2:Hid (RdSt w r g T aE kE T.st w2):=⟨hV,zP hO a7.out.size,(Fr.below a7.out).trans' hD.2,hD.1⟩
  clear hg hV hO hD
  have HS:Hid _:=zIV r T.st 0 w2 H2.out.ri (Nat.zero_le _)
  rw[U]at HS
  go_wp2_with fail
  refine Calls.mono HS.out ?_
  rintro e w3 ⟨rfl,A⟩
  have H3:Hid _:=H2.out.low A
  clear A H2 HS
  have aT:Hid _:=zIS r T.st w3 H3.out.ri
  go_wp2_with fail
  refine Calls.mono aT.out ?_
  rintro e w3 ⟨rfl,rfl⟩
  have a8:Hid _:=zCy r T.st 32 w3 H3.out.ri (by omega)
  rw[hk]at a8
  go_wp2_with fail
  refine Calls.mono a8.out ?_
  rintro e w4 ⟨rfl,hD⟩
  have H4:Hid _:=H3.out.next hD
  clear hD H3 aT a8
  have HW:Hid _:=zK0 r W w4 H4.out.ri
  go_wp2_with fail
  refine Calls.mono HW.out ?_
  rintro e w5 ⟨rfl,A⟩
  have H5:Hid _:=H4.out.low A
  have HZ:Hid (∀X,Fr (fun j=>j=r) w X→Below w.heap.size w X):=fun X hX=>Fr.toBelow (hX.mono (fun j hj e=>by have h1:=aU.out;have e':j=r:=e;omega))
  clear A H4 HW aH J aK hk U
  cases hwr:W.wrong with
  |true=>
   go_wp2_with fail
   refine Calls.mono (zAk 7 _ w5) ?_
   rintro e G ⟨q,rfl,F,A⟩
   have Z:Hid _:=F
   have HB:Hid _:=A
   clear F A
   go_wp2_with fail
   go_ret2
   exact RdDid.bad (by rw[HE.out,if_pos hwr]) ((HZ.out _ H5.out.fr).trans (HB.out.mono H5.out.fr.size)) Z.out
  |false=>
   have aB:Hid _:=HL.out hwr
   have u:Hid _:=HE.out
   rw[hwr,if_neg (by simp)]at u
   clear HE HL
   have aI:Gd kt w5:=HG.out.below (HZ.out _ H5.out.fr)
   have a9:Hid _:=zCP kt (⟨#[3]⟩++td) w5 (by rw[ByteArray.size_append];have:(⟨#[3]⟩:ByteArray).size=1:=rfl;omega) aI.tab aI.one
   obtain⟨dg,b0⟩:∃x,ofT kt (⟨#[3]⟩++td)=x:=⟨_,rfl⟩
   rw[b0]at a9 u
   clear aI b0
   go_wp2_with fail
   refine Calls.mono a9.out ?_
   rintro e G ⟨rfl,A⟩
   have H6:Hid _:=H5.out.low A
   clear A a9 H5
   by_cases Q:ck=dg
   ·rw[if_pos Q]at u
    have bP:=zS Q
    clear Q
    have aP:Hid (Below w.heap.size w G):=HZ.out _ H6.out.fr
    have aL:T.lv.size=T.L.cnt*32:=aB.out.lv
    have cD:T.L.cnt≤512:=aB.out.cnt
    have b2:g<G.heap.size:=(Array.getElem?_eq_some_iff.1 H6.out.vol).1
    have bC:Hid (∀X:World,Below G.heap.size G X→Calls Tryz.prog 100 #[.string T.lv,.int .i64 32] X fun e w'=>e=.returned (.slice (some ⟨X.heap.size,0,none⟩) T.L.cnt T.L.cnt)∧Rw w' X.heap.size T.L.cnt 9 (tX (pc T.lv 32))∧Below X.heap.size X w'):=fun X _=>zLV T.lv 32 T.L.cnt X (by omega) (by omega) (by omega) aL
    obtain⟨rt,aJ⟩:∃x,zAX (ofT kt) T.lst T.L.cnt (pc T.lv 32)=x:=⟨_,rfl⟩
    rw[aJ]at u
    have bD:Hid (∀(X:World) (b:Nat),Below G.heap.size G X→Rw X b T.L.cnt 9 (tX (pc T.lv 32))→Calls Tryz.prog 99 #[.string T.lst,.slice (some ⟨b,0,none⟩) T.L.cnt T.L.cnt] X fun e w'=>e=.returned (.string rt)∧Below X.heap.size X w'):=fun X b hX hR=>by
     rw[←aJ]
     exact zBa kt T.lst (pc T.lv 32) b T.L.cnt T.L.cnt X (by omega) (by omega) (fun i hi=>by rw[zMV T.lv 32 T.L.cnt i aL hi];exact Nat.le_refl _) (HG.out.below (aP.out.trans (hX.mono aP.out.size))) (Array.getElem?_eq_some_iff.1 hR).1 (fun i hi=>hR.cell i hi)
    have HV:Hid (∀X:World,Below G.heap.size G X→X.cell? ⟨g,0,none⟩=some (.string T.root)∧X.cell? ⟨g,1,none⟩=some (.string T.lst)∧X.cell? ⟨g,7,none⟩=some (.string T.lv)):=fun X hX=>by
     have h1:X.heap[g]? =some (.cells (zBE T.root T.lst T.L.K T.L.M T.L.C T.L.V (.slice aE T.L.es.length kE) T.lv T.num 0 (.slice none 0 0)) 157 (0,0)):=by rw[hX.block g b2];exact H6.out.vol
     exact⟨cell_of_row _ _ _ _ 157 _ h1,cell_of_row _ _ _ _ 157 _ h1,cell_of_row _ _ _ _ 157 _ h1⟩
    obtain⟨v0,v1,v7⟩:=HV.out G (Below.refl _ _)
    clear aJ aL
    go_wp2_with fail
    go_region_held3 (fun w2=>w2.cell? ⟨g,0,none⟩=some (.string T.root)∧w2.cell? ⟨g,1,none⟩=some (.string T.lst)∧w2.cell? ⟨g,7,none⟩=some (.string T.lv)) (go_keep) (first|(go_at_call 100;refine Calls.mono (bC.out _ (by first|exact Below.refl _ _|exact (Below.refl _ _).drew)) ?_;rintro e w7 ⟨rfl,aY,aG⟩;have N:Below G.heap.size G w7:=(by first|exact aG|exact ((Below.refl _ _).drew).trans aG);obtain⟨x0,x1,x7⟩:=HV.out w7 N)|(go_at_call 99;refine Calls.mono (bD.out _ _ N aY) ?_;rintro e w8 ⟨rfl,hb8⟩;have aD:Below G.heap.size G w8:=(N.trans (hb8.mono N.size));obtain⟨y0,y1,y7⟩:=HV.out w8 aD))
    have H8:Hid _:=H6.out.low aD
    clear aY aG N x0 x1 x7 hb8 aD y0 y1 y7 v0 v1 v7 H6
    by_cases a2:T.root=rt
    ·rw[if_pos a2]at u
     have R:(!(T.root.toList == rt.toList))=false:=by rw[zS a2];rfl
     rw[R]
     clear R
     have D:=aB.out
     have bF:Hid _:=zP1 r g w.heap.size T.L.K T.L.M T.L.C T.L.V T.num T.L.cnt T.first ((T.num+1)*T.L.cnt/T.L.V) T.size ((zX t).size /T.L.C) aE kE T.L.es T.root T.lst T.lv (zX t) W w8 H8.out.ri hwr (by rw[aV.out];omega) H8.out.vol H8.out.own aS.out.1 aS.out.2 D.k1 D.km D.c1 D.c64 D.v1 D.v16 D.num rfl D.cnt rfl rfl rfl (by rw[aV.out];rw[←bH.out];rfl) rfl
     clear D
     go_wp2_with fail
     refine Calls.mono bF.out ?_
     rintro e w9 (⟨bS,q,rfl,F,hF⟩|⟨cK,rfl,q,F,b1,aZ,aX,hF⟩)
     ·rw[if_pos bS]at u
      have Z:Hid _:=F
      have aA:Hid _:=H8.out.fr.trans' hF
      clear F hF
      go_wp2_with fail
      go_ret2
      exact RdDid.bad u.out (HZ.out _ aA.out) Z.out
     ·rw[if_neg (by omega)]at u
      have aA:Hid (Below w.heap.size w w9):=Fr.toBelow ((H8.out.fr.trans (S1:=fun j=>j=r∨j=g) (fun j hj=>by
       rcases hj with e|e
       ·exact .inl e
       ·exact .inr (by have:=aR.out;omega)) hF).mono (fun j hj e=>by have h1:=aU.out;have e':j=r:=e;omega))
      have bK:Hid (zG5 T (zX t) w.heap.size g w9):=⟨aE,kE,q,b1,aR.out,Nat.le_trans H8.out.fr.size F,aZ,aX⟩
      clear F hF b1 aZ aX
      go_wp2_with fail
      go_ret2
      exact RdDid.good u.out aA.out (by rw[hT];exact bK.out)
    ·rw[if_neg a2]at u
     have R:(!(T.root.toList == rt.toList))=true:=by rw[zW a2];rfl
     rw[R]
     clear R
     go_wp2_with fail
     refine Calls.mono (zAk 9 4 w8) ?_
     rintro e w9 ⟨q,rfl,F,A⟩
     have Z:Hid _:=F
     have HB:Hid _:=A
     clear F A
     go_wp2_with fail
     go_ret2
     exact RdDid.bad u.out ((HZ.out _ H8.out.fr).trans (HB.out.mono H8.out.fr.size)) Z.out
   ·rw[if_neg Q]at u
    have bP:=zW Q
    go_wp2_with fail
    refine Calls.mono (zAk 8 _ G) ?_
    rintro e w7 ⟨q,rfl,F,A⟩
    have Z:Hid _:=F
    have HB:Hid _:=A
    clear F A
    go_wp2_with fail
    go_ret2
    exact RdDid.bad u.out ((HZ.out _ H6.out.fr).trans (HB.out.mono H6.out.fr.size)) Z.out
theorem zND (c:Nat)(s:RS)(t:ByteArray)(w:World)(h:CR c s w)(ht:t.size≤1000000000):
 Calls Tryz.prog 45 #[.pointer (some ⟨c,0,none⟩),.string t] w fun e w'=>e=.returned (.tuple #[])∧zCn c (s.word t) w w':=by
 have c0:w.cell? ⟨c,0,none⟩=some (.string s.text):=cell_of_row _ _ _ _ 124 _ h.row
 have c1:w.cell? ⟨c,1,none⟩=some (.int .i64 (atC s:Nat)):=cell_of_row _ _ _ _ 124 _ h.row
 have c2:w.cell? ⟨c,2,none⟩=some (.bool s.wrong):=cell_of_row _ _ _ _ 124 _ h.row
 have HH:Hid (CR c s w):=h
 have X:=h.nt
 have a1:=h.small
 clear h
 obtain⟨text,field,next,wrong⟩:=s
 cases wrong
 ·have e1:atC ⟨text,field,next,false⟩=next:=rfl
  rw[e1]at c1
  have Z:next≤text.size:=X
  have D:text.size≤1000000000:=a1
  have u1:IntKind.i64.wrap ((text.size:Int)-(next:Int))=(text.size:Int)-(next:Int):=by rw[IntKind.wrap_i64];omega
  clear X a1
  have J:Hid (∀j,(w.drewN j).heap[c]? =some (.cells (cuC ⟨text,field,next,false⟩) 124 (0,0))):=fun j=>HH.out.row
  have G:Hid (∀j,Fr (fun j=>j=c) w (w.drewN j)):=fun j=>Fr.below (below_drewN (Below.refl _ _) _)
  by_cases R:text.size-next<t.size
  ·have U:(text.size:Int)-(next:Int)<(t.size:Int):=by omega
   have F:Hid (RS.word ⟨text,field,next,false⟩ t=⟨text,next,next,true⟩):=by
    show _=_
    have hb:RS.bytes ⟨text,field,next,false⟩ t.size=(⟨text,next,next,true⟩,⟨#[]⟩):=by
     unfold RS.bytes
     simp[R]
    unfold RS.word
    rw[hb]
    split
    ·rfl
    ·rfl
   go_enter Tryz.func45,Tryz.ntmps45
   go_wp2_with fail
   go_quiet (fail)
   obtain⟨W,u⟩:∃W,w.drewN nq=W:=⟨_,rfl⟩
   have A:Hid (W.heap[c]? =some (.cells (cuC ⟨text,field,next,false⟩) 124 (0,0))):=by show _=_;rw[←u];exact J.out nq
   have Q:Hid (Fr (fun j=>j=c) w W):=by show Fr _ _ _;rw[←u];exact G.out nq
   rw[u]
   clear u c0 c1 c2
   have g2:W.cell? ⟨c,2,none⟩=some (.bool false):=cell_of_row _ _ _ _ 124 _ A.out
   have k2:=frozen_of_row W c 2 _ 124 A.out
   go_wp2_with fail
   go_end0
   rw[F.out]
   exact⟨rfl,⟨zH _ _ 2 _ _ _ _ A.out,Z,D⟩,Q.out.set (.inl rfl) _ _⟩
  ·have U:¬(text.size:Int)-(next:Int)<(t.size:Int):=by omega
   have hb:RS.bytes ⟨text,field,next,false⟩ t.size=(⟨text,next,next+t.size,false⟩,text.extract next (next+t.size)):=by
    unfold RS.bytes
    simp[R]
   obtain⟨m,hm⟩:∃m,next+t.size=m:=⟨_,rfl⟩
   rw[hm]at hb
   have u2:IntKind.i64.wrap (m:Int)=(m:Int):=by rw[IntKind.wrap_i64];omega
   have em:(next:Int)+(t.size:Int)=(m:Int):=by omega
   have k1:(0:Int)≤(next:Int):=by omega
   have k2:(next:Int)≤(m:Int):=by omega
   have k3:(m:Int)≤(text.size:Int):=by omega
   have HM:Hid (m≤text.size):=by show m≤_;omega
   clear hm
   by_cases N:text.extract next m=t
   ·have q1:((text.extract next m).toList == t.toList)=true:=zS N
    have F:Hid (RS.word ⟨text,field,next,false⟩ t=⟨text,next,m,false⟩):=by
     show _=_
     unfold RS.word
     rw[hb,if_pos N]
    clear hb N
    go_enter Tryz.func45,Tryz.ntmps45
    go_wp2_with fail
    go_quiet (fail)
    obtain⟨W,u⟩:∃W,w.drewN nq=W:=⟨_,rfl⟩
    have A:Hid (W.heap[c]? =some (.cells (cuC ⟨text,field,next,false⟩) 124 (0,0))):=by show _=_;rw[←u];exact J.out nq
    have Q:Hid (Fr (fun j=>j=c) w W):=by show Fr _ _ _;rw[←u];exact G.out nq
    rw[u]
    try rw[q1]
    clear u c0 c1 c2
    have g1:W.cell? ⟨c,1,none⟩=some (.int .i64 next):=cell_of_row _ _ _ _ 124 _ A.out
    have g2:W.cell? ⟨c,2,none⟩=some (.bool false):=cell_of_row _ _ _ _ 124 _ A.out
    have l1:=frozen_of_row W c 1 _ 124 A.out
    go_wp2_with fail
    go_end0
    rw[F.out]
    exact⟨rfl,⟨zH _ _ 1 _ _ _ _ A.out,HM.out,D⟩,Q.out.set (.inl rfl) _ _⟩
   ·have q1:((text.extract next m).toList == t.toList)=false:=zW N
    have F:Hid (RS.word ⟨text,field,next,false⟩ t=⟨text,next,m,true⟩):=by
     show _=_
     unfold RS.word
     rw[hb,if_neg N]
     rfl
    clear hb N
    go_enter Tryz.func45,Tryz.ntmps45
    go_wp2_with fail
    go_quiet (fail)
    obtain⟨W,u⟩:∃W,w.drewN nq=W:=⟨_,rfl⟩
    have A:Hid (W.heap[c]? =some (.cells (cuC ⟨text,field,next,false⟩) 124 (0,0))):=by show _=_;rw[←u];exact J.out nq
    have Q:Hid (Fr (fun j=>j=c) w W):=by show Fr _ _ _;rw[←u];exact G.out nq
    rw[u]
    try rw[q1]
    clear u c0 c1 c2
    have g2:W.cell? ⟨c,2,none⟩=some (.bool false):=cell_of_row _ _ _ _ 124 _ A.out
    have l2:=frozen_of_row W c 2 _ 124 A.out
    go_wp2_with fail
    go_end0
    rw[F.out]
    exact⟨rfl,⟨zH _ _ 2 _ _ _ _ A.out,HM.out,D⟩,Q.out.set (.inl rfl) _ _⟩
 ·have F:Hid (RS.word ⟨text,field,next,true⟩ t=⟨text,field,next,true⟩):=by
   show _=_
   unfold RS.word
   split
   ·rfl
   ·rfl
  go_enter Tryz.func45,Tryz.ntmps45
  go_wp2_with fail
  go_quiet (fail)
  go_wp2_with fail
  go_end0
  rw[F.out]
  exact⟨rfl,⟨HH.out.row,HH.out.nt,HH.out.small⟩,Fr.below (below_drewN (Below.refl _ _) _)⟩
theorem zJb (n:Nat)(w:World)(R:2≤n)(h:n<9223372036854775808):
 Calls Tryz.prog 146 #[.int .i64 n] w fun e w'=>e=.returned (.int .i64 (hf n:Nat))∧w'=w:=by
 have F:Hid (∀e:Nat,2 ^ e<n→n≤2*2 ^ e→2 ^ e=hf n):=fun e h G=>zNU e n h G
 go_enter Tryz.func146,Tryz.ntmps146
 go_wp2
 go_loop [3] (fun D=>∃p e:Nat,p=2 ^ e∧D=.int .i64 p∧p<n) (fun D=>n-(intOf D).toNat)
 case atStart=>exact⟨1,0,rfl,rfl,by omega⟩
 case round=>
  obtain⟨p,e,u,rfl,A⟩:=hrel
  have N:0<p:=by rw[u];exact Nat.two_pow_pos _
  have j:Hid _:=u
  clear u
  by_cases J:(p:Int)<(n:Int)-(p:Int)
  ·go_wp2
   go_round
   case rel=>exact⟨2*p,e+1,by rw[j.out,Nat.pow_succ];omega,by go_num,by omega⟩
   case measure=>simp[intOf];omega
  ·have Q:p=hf n:=by
    have:=F.out e (by rw[←j.out];exact A) (by rw[←j.out];omega)
    rw[j.out];exact this
   go_wp2
   go_ret
   exact⟨rfl,rfl⟩
theorem zHn (a b:ByteArray)(w:World)(j:a.size≤35184372088832)(hb:b.size≤35184372088832):
 Calls Tryz.prog 147 #[.string a,.string b] w fun e w'=>e=.returned (.string (⟨#[1]⟩++a++b))∧w'=w:=by
 go_enter Tryz.func147,Tryz.ntmps147
 go_wp2
 go_ret
 exact⟨rfl,rfl⟩
theorem zPy (a b:ByteArray)(j:a.size≤35184372088832)(hb:b.size≤35184372088832):((⟨#[1]⟩:ByteArray)++a++b).size≤140737488351232:=by
 simp only[ByteArray.size_append]
 have:(⟨#[1]⟩:ByteArray).size=1:=rfl
 omega
theorem zJ5 (kt:Nat→Int):∀(n:Nat) (L:Nat→ByteArray) (b o u:Nat) (w:World),n≤u→u<9223372036854775808→Gr kt w→b<w.heap.size→(∀i,i<n→(L i).size≤35184372088832)→Co w b o n (tI L)→
 Calls Tryz.prog 106 #[.slice (some ⟨b,o,none⟩) n u] w fun e w'=>e=.returned (.string (zAj (ofT kt) n L))∧Below w.heap.size w w':=by
 intro n
 induction n using Nat.strongRecOn with
 |ind n ih=>
 intro L b o u w hn hc hG hb R hC
 by_cases h0:n=0
 ·subst h0
  have H:Hid _:=zb kt ⟨#[]⟩ w (by decide) hG
  rw[zBn]
  clear ih hC R hG
  go_enter Tryz.func106,Tryz.ntmps106
  go_wp2_with fail
  refine Calls.mono H.out ?_
  rintro e Q ⟨rfl,hB⟩
  go_wp2
  go_ret
  exact⟨rfl,hB⟩
 ·by_cases h1:n=1
  ·subst h1
   rw[zER]
   have c0:w.cell? ⟨b,o,none⟩=some (.string (L 0)):=hC 0 (by omega)
   clear ih hC R hG
   go_enter Tryz.func106,Tryz.ntmps106
   go_wp2
   go_ret
   exact⟨rfl,Below.refl _ _⟩
  ·have h2:2≤n:=by omega
   rw[zES _ n L h2]
   have e1:=zHX n h2
   have e2:=zFa n
   have HH:Hid _:=fun W=>zJb n W h2 (by omega)
   have H1:Hid _:=fun W=>ih (hf n) e1 L b o u W (by omega) hc
   have H2:Hid _:=fun W=>ih (n-hf n) (by omega) (fun j=>L (hf n+j)) b (o+hf n) (u-hf n) W (by omega) (by omega)
   have J:=zAe (ofT kt) 35184372088832 (zBm kt) (hf n) L (fun i hi=>R i (by omega))
   have N:=zAe (ofT kt) 35184372088832 (zBm kt) (n-hf n) (fun j=>L (hf n+j)) (fun i hi=>R _ (by omega))
   have HL:Hid _:=R
   have HC:Hid (Co w b o n (tI L)):=hC
   have HG:Hid _:=hG
   have aN:((n:Int) == 0)=false:=by simp;omega
   have aO:((n:Int) == 1)=false:=by simp;omega
   obtain⟨A,hA⟩:∃A,zAj (ofT kt) (hf n) L=A:=⟨_,rfl⟩
   obtain⟨B,a1⟩:∃B,zAj (ofT kt) (n-hf n) (fun j=>L (hf n+j))=B:=⟨_,rfl⟩
   rw[hA]at J H1 ⊢
   rw[a1]at N H2 ⊢
   obtain⟨m,a5⟩:∃m,hf n=m:=⟨_,rfl⟩
   rw[a5]at e1 e2 HH H1 H2
   clear ih hC R hG hA a1 a5
   go_enter Tryz.func106,Tryz.ntmps106
   go_wp2_with fail
   refine Calls.mono (HH.out _) ?_
   rintro e Q ⟨rfl,rfl⟩
   go_wp2_with fail
   refine Calls.mono (H1.out _ HG.out hb (fun i hi=>HL.out i (by omega)) (Co.lo HC.out (by omega))) ?_
   rintro e w2 ⟨rfl,G⟩
   have D:Hid (Below Q.heap.size Q w2):=G
   have aA:b<w2.heap.size:=Nat.lt_of_lt_of_le hb G.size
   clear G
   go_wp2_with fail
   refine Calls.mono (H2.out _ (HG.out.below D.out) aA (fun i hi=>HL.out _ (by omega)) ((Co.hi HC.out (by omega)).below D.out hb)) ?_
   rintro e w3 ⟨rfl,X⟩
   have F:Hid (Below Q.heap.size Q w3):=D.out.trans (X.mono D.out.size)
   clear X
   go_wp2_with fail
   refine (zHn A B _ J N).mono ?_
   rintro e aB ⟨rfl,rfl⟩
   go_wp2_with fail
   refine (zb kt _ aB (zPy A B J N) (HG.out.below F.out)).mono ?_
   rintro e w4 ⟨rfl,Z⟩
   have U:Below Q.heap.size Q w4:=F.out.trans (Z.mono F.out.size)
   clear Z
   go_wp2
   go_ret
   exact⟨rfl,U⟩
theorem zJ6 (kt:Nat→Int)(L:Nat→ByteArray)(w:World)(j:Gr kt w):
 Calls Tryz.prog 106 #[.slice none 0 0] w fun e w'=>e=.returned (.string (zAj (ofT kt) 0 L))∧Below w.heap.size w w':=by
 have H:Hid _:=zb kt ⟨#[]⟩ w (by decide) j
 rw[zBn]
 clear j
 go_enter Tryz.func106,Tryz.ntmps106
 go_wp2_with fail
 refine Calls.mono H.out ?_
 rintro e A ⟨rfl,u⟩
 go_wp2
 go_ret
 exact⟨rfl,u⟩
theorem zDr (W:World)(g x:Nat)(h:W.cell? ⟨g,0,none⟩=some (.int .u8 ((x:Nat):Int))):(convert 173 9 (.slice (some ⟨g,0,none⟩) 1 1)).run Tryz.prog W=.ok (.string (strOfNums [((x:Nat):Int)])) W:=
 run_convert_bytes_arg (P:=Tryz.prog) W 173 5 Tryz.underlying173 Tryz.underlying5 g 0 1 1 [((x:Nat):Int)] rfl (fun i hi=>by
  have:i=0:=by simp at hi;omega
  subst this;simpa using h) 9 Tryz.underlying9
theorem zCm (x:Int)(l:List Int):strOfNums (x::l)=strOfNums [x]++strOfNums l:=by
 simp[strOfNums]
 apply ByteArray.ext
 simp
theorem zDa:∀(f n:Nat) (w:World),f≤4→n<128 ^ (f+1)→
 Calls Tryz.prog 76 #[.int .i64 n] w fun e w'=>e=.returned (.string (strOfNums ((vb f n).map fun x=>((x:Nat):Int))))∧Below w.heap.size w w'
 |f,n,w,hf,hn=>by
  by_cases D:n<128
  ·have G:vb f n=[n]:=by cases f<;>simp[vb,D]
   rw[G]
   have a6:=zDr (w.alloc (.cells #[.int .u8 ((n:Nat):Int)] 5)) w.heap.size n (cell_one_new _ _ _ 0 _ rfl)
   have X:(n:Int)%256=(n:Int):=by omega
   have hi:(n:Int)<128:=by omega
   clear hf hn
   go_enter Tryz.func76,Tryz.ntmps76
   go_wp2
   go_ret
   exact⟨rfl,(Below.refl _ _).alloc (Nat.le_refl _) _⟩
  ·obtain⟨j,rfl⟩:∃j,f=j+1:=by
    cases f with
    |zero=>exact absurd (by simpa using hn) D
    |succ j=>exact⟨j,rfl⟩
   have H:Hid _:=fun W=>zDa j (n/128) W (by omega) (by rw[Nat.pow_succ]at hn;omega)
   have G:vb (j+1) n=(n%128+128)::vb j (n/128):=by rw[vb,if_neg D]
   rw[G,List.map_cons,zCm]
   have F:Hid _:=zIv j (n/128)
   have N:(strOfNums ((vb j (n/128)).map fun x=>((x:Nat):Int))).size≤5:=by
    rw[strOfNums_size,List.length_map];have:=F.out;omega
   obtain⟨T,U⟩:∃T,strOfNums ((vb j (n/128)).map fun x=>((x:Nat):Int))=T:=⟨_,rfl⟩
   rw[U]at H N ⊢
   have a7:n<9223372036854775808:=Nat.lt_of_lt_of_le hn (Nat.le_trans (Nat.pow_le_pow_right (by omega) (show j+1+1≤6 by omega)) (by decide))
   obtain⟨x,hx⟩:∃x:Int,IntKind.u8.wrap (IntKind.i64.wrap ((n:Int).tmod 128+128))=x:=⟨_,rfl⟩
   have Q:Hid (x=((n%128+128:Nat):Int)):=by
    show x=_
    rw[←hx]
    have:(n:Int).tmod 128=((n%128:Nat):Int):=by rw[Int.tmod_eq_emod_of_nonneg (by omega)];omega
    rw[this]
    have h1:IntKind.i64.wrap (((n%128:Nat):Int)+128)=((n%128+128:Nat):Int):=by
     rw[IntKind.wrap_i64];omega
    rw[h1,IntKind.wrap_u8];omega
   have Z:Hid (IntKind.i64.wrap ((n:Int)/128)=((n/128:Nat):Int)):=by
    show IntKind.i64.wrap ((n:Int)/128)=_
    rw[IntKind.wrap_i64];omega
   have J:(strOfNums [((n%128+128:Nat):Int)]).size=1:=strOfNums_size _
   have u:Hid _:=fun W g (h:W.cell? ⟨g,0,none⟩=some (.int .u8 x))=>zDr W g (n%128+128) (by rw[←Q.out];exact h)
   obtain⟨S,R⟩:∃S,strOfNums [((n%128+128:Nat):Int)]=S:=⟨_,rfl⟩
   rw[R]at u J ⊢
   have a2:=u.out (w.alloc (.cells #[.int .u8 x] 5)).drew w.heap.size (cell_one_new w _ _ 0 _ rfl)
   have hi:¬((n:Int)<128):=by omega
   clear hf hn U G F Q R
   go_enter Tryz.func76,Tryz.ntmps76
   go_wp2_with fail
   go_region_with (go_at_call 76;rw[Z.out];refine Calls.mono (H.out _) ?_;rintro e w' ⟨rfl,hb⟩;(first|(have a4:=u.out w' w.heap.size ((hb.cell (p:=⟨w.heap.size,0,none⟩) (by simp)).trans (cell_one_new w _ _ 0 _ rfl)))|skip);(first|(have A:Below w.heap.size w w':=(((Below.refl _ _).alloc (Nat.le_refl _) _).drew).trans (hb.mono (by simp)))|(have A:Below w.heap.size w w':=((Below.refl _ _).drew).trans (hb.mono (by simp))));have a5:=u.out (w'.alloc (.cells #[.int .u8 x] 5)) w'.heap.size (cell_one_new w' _ _ 0 _ rfl))
   all_goals (go_wp2;go_ret;first|exact⟨rfl,A⟩|exact⟨rfl,A.alloc A.size _⟩)
theorem zCU (n:Nat)(w:World)(j:n<4294967296):
 Calls Tryz.prog 76 #[.int .i64 n] w fun e w'=>e=.returned (.string (zm n))∧Below w.heap.size w w':=
 zDa 4 n w (Nat.le_refl _) (Nat.lt_of_lt_of_le j (by decide))
theorem zCT (s:ByteArray)(w:World)(hs:s.size≤1000000000):
 Calls Tryz.prog 122 #[.string s] w fun e w'=>e=.returned (.string (⟨#[0]⟩++s))∧w'=w:=by
 go_enter Tryz.func122,Tryz.ntmps122
 go_wp2
 go_ret
 exact⟨rfl,rfl⟩
theorem zGp (kt:Nat→Int)(l:ByteArray)(L:Nat→ByteArray)(n:Nat)(v:Value)(w:World)(hl:l.size≤1000000000)(u:Gr kt w)(A:∀i,i<n→(L i).size≤32)
 (F:(v=.slice none 0 0∧n=0)∨∃b j,v=.slice (some ⟨b,0,none⟩) n j∧n≤j∧j<9223372036854775808∧b<w.heap.size∧Co w b 0 n (tI L)):
 Calls Tryz.prog 78 #[.string l,v] w fun e w'=>e=.returned (.string (⟨#[2]⟩++l++zAj (ofT kt) n L))∧Below w.heap.size w w':=by
 have H:Hid (Calls Tryz.prog 106 #[v] w fun e w'=>e=.returned (.string (zAj (ofT kt) n L))∧Below w.heap.size w w'):=by
  rcases F with ⟨rfl,rfl⟩|⟨b,j,rfl,G,J,N,Q⟩
  ·exact zJ6 kt L w u
  ·exact zJ5 kt n L b 0 j w G J u N (fun i hi=>Nat.le_trans (A i hi) (by omega)) Q
 have U:(zAj (ofT kt) n L).size≤35184372088832:=zAe (ofT kt) 35184372088832 (zBm kt) n L (fun i hi=>Nat.le_trans (A i hi) (by omega))
 have R:((⟨#[2]⟩:ByteArray)++l).size≤1000000001:=by
  rw[ByteArray.size_append]
  have:(⟨#[2]⟩:ByteArray).size=1:=rfl
  omega
 clear F u A
 go_enter Tryz.func78,Tryz.ntmps78
 go_wp2_with fail
 refine Calls.mono H.out ?_
 rintro e W ⟨rfl,D⟩
 go_wp2
 go_ret
 exact⟨rfl,D⟩
def b8 (l:List Nat):List UInt8:=l.map UInt8.ofNat
def vi (n:Nat):List UInt8:=b8 (vb 4 n)
theorem zCf (n:Nat):(zm n).data.toList=vi n:=by
 unfold zm vi b8
 rw[strOfNums_data,List.map_map]
 apply List.map_congr_left
 intro a _
 simp
theorem zJP {t:ByteArray}{i:Nat}(h:i<t.size):t.data.toList.drop i=t[i]::t.data.toList.drop (i+1):=by
 rw[List.drop_eq_getElem_cons (by simpa using h)]
 rfl
theorem zGG (f n:Nat)(h:n<128):vb f n=[n]:=by
 cases f with
 |zero=>rfl
 |succ f=>rw[vb,if_pos h]
theorem zLP {x:UInt8}{b:Nat}(h:x.toNat=b):x=UInt8.ofNat b:=by
 rw[←h];simp
theorem zIz (t:ByteArray):∀(k i sum:Nat),(vrF t i sum (k+1)).2≠0→∃m,(vrF t i sum (k+1)).1=sum+m*128 ^ i∧(0<i→m≠0)∧(vrF t i sum (k+1)).2=i+(vb k m).length∧t.data.toList.drop i=b8 (vb k m)++t.data.toList.drop (i+(vb k m).length)
 |k,i,sum,h=>by
  rw[vrF]at h ⊢
  by_cases hi:i<t.size
  ·rw[dif_pos hi]at h ⊢
   obtain⟨b,hb⟩:∃b,t[i].toNat=b:=⟨_,rfl⟩
   have U:b<256:=by rw[←hb];exact t[i].toNat_lt
   have hd:=zJP hi
   rw[zLP hb]at hd
   rw[hb]at h ⊢
   by_cases hp:128≤b
   ·rw[if_pos hp]at h ⊢
    cases k with
    |zero=>exact absurd rfl h
    |succ k=>
     obtain⟨m,J,N,Q,R⟩:=zIz t k (i+1) _ h
     have u:=N (by omega)
     have e:vb (k+1) (b%128+128*m)=b::vb k m:=by
      rw[vb,if_neg (by omega)]
      have D:(b%128+128*m)%128+128=b:=by omega
      have F:(b%128+128*m)/128=m:=by omega
      rw[D,F]
     refine⟨b%128+128*m,?_,fun _=>by omega,?_,?_⟩
     ·rw[J,Nat.pow_succ,Nat.add_mul]
      have:m*(128 ^ i*128)=128*m*128 ^ i:=by rw[Nat.mul_comm 128 m,Nat.mul_assoc,Nat.mul_comm (128 ^ i) 128]
      omega
     ·rw[Q,e,List.length_cons];omega
     ·rw[e,hd,R,List.length_cons]
      have:i+1+(vb k m).length=i+((vb k m).length+1):=by omega
      rw[this]
      rfl
   ·rw[if_neg hp]at h ⊢
    by_cases j:4294967295<sum+b%128*128 ^ i∨(b=0∧0<i)
    ·rw[if_pos j]at h;exact absurd rfl h
    ·rw[if_neg j]
     have e:vb k b=[b]:=zGG k b (by omega)
     have u:b%128=b:=Nat.mod_eq_of_lt (by omega)
     refine⟨b,by rw[u],fun G A=>j (.inr ⟨A,G⟩),by rw[e];rfl,by rw[e,hd];rfl⟩
  ·rw[dif_neg hi]at h;exact absurd rfl h
theorem zMs {t:ByteArray}(h:(vrd t).2≠0):t.data.toList=vi (vrd t).1++t.data.toList.drop (vrd t).2:=by
 obtain⟨m,u,_,A,D⟩:=zIz t 4 0 0 h
 have e:(vrd t).1=m:=by show (vrF t 0 0 (4+1)).1=m;rw[u];simp
 have j:(vrd t).2=(vb 4 m).length:=by show (vrF t 0 0 (4+1)).2=_;rw[A];simp
 rw[e,j]
 simpa[vi] using D
end Go.Proofs.YtlopecgkiikdhaaGreatDoor
