import Derived.Test.YtlopecgkiikdhaaGreatDoorX45
namespace Go.Proofs.YtlopecgkiikdhaaGreatDoor
open Go.RowKit
set_option maxRecDepth 100000
set_option maxHeartbeats 4000000
def blW (kt:Nat→Int)(T:TT)(bl:Nat→ByteArray)(x:Nat):ByteArray:=stM kt T bl (x/T.n) (x%T.n)
def RRe (kt:Nat→Int)(T:TT)(bl:Nat→ByteArray)(w:World)(e:Ending)(w':World):Prop:=
 ∃vv vm vl,e=.returned (.tuple #[vv,vm,vl])∧Below w.heap.size w w'∧(((∀s,s<T.L.ns→stF kt T bl s=0)∧vm=.slice none 0 0∧vl=.slice none 0 0∧w'.ownsRow w.heap.size 9 1 vv T.L.V (txV (reV kt T (blW kt T bl)) T.L.V))∨∃s,s<T.L.ns∧stF kt T bl s≠0∧(∀x,x<s→stF kt T bl x=0)∧vv=.slice none 0 0∧Mk w' w.heap.size vm [(14,(s:Int))]∧OwnT w' w.heap.size vl (zA5 kt T bl T.L.es.length))
theorem zIU (kt:Nat→Int)(B v:Nat)(vH vU:Value)(hp:List (ByteArray×Nat))(un:List Nat)(t0:ByteArray)(w:World)(H:RB kt B v vH vU hp un w)(hS:RSet kt t0 (hp.map Prod.fst))(hG:Gr kt w)(hl:hp.length≤100000000):
 Calls Tryz.prog 71 #[.pointer (some ⟨v,0,none⟩)] w fun e w'=>RRe kt (tT t0) (blH (hp.map Prod.fst)) w e w':=by
 have Q:zt (tT t0):=zAz (zY (hS.rd t0 hS.mem0)).2.1
 have aA:(tT t0).L.es.length≤16∧zM (tT t0).L.es≤4096:=zAQ (RS.on t0)
 have aG:∀j,(nmE (tT t0).L.es j).size≤1000:=zEA (zFA (RS.on t0))
 have aC:∀j,lnE (tT t0).L.es j≤100000:=zD6 aA.2
 obtain⟨bl,a8⟩:∃x,blH (hp.map Prod.fst)=x:=⟨_,rfl⟩
 obtain⟨T,a5⟩:∃x,tT t0=x:=⟨_,rfl⟩
 have aN:Hid (Calls Tryz.prog 89 #[.pointer (some ⟨v,0,none⟩)] w fun e w'=>RAl kt (tT t0) (blH (hp.map Prod.fst)) w e w'):=zPk kt B v vH vU hp un t0 w H hS hG hl
 have aP:Hid (∀X:World,Below w.heap.size w X→Calls Tryz.prog 66 #[.pointer (some ⟨v,0,none⟩)] X fun e w'=>RUn kt (tT t0) (blH (hp.map Prod.fst)) X e w'):=fun X hX=>zIa kt B v vH vU hp un t0 X (H.low hX) hS (hG.below hX) hl
 rw[a8,a5]at aN aP
 obtain⟨A,g0,cH,rfl,hm,c0,c1,hh⟩:=H.top hS
 obtain⟨d0,d1,d2,d3⟩:=hh.nums
 obtain⟨aE,cE,d5,oE⟩:=hh.ents
 rw[a5]at d0 d1 d2 d3 d5 oE Q aA aG aC
 rw[a8,a5]
 have aX:=Q.k1;have c8:=Q.km;have bY:=Q.c1;have aT:=Q.c64;have aV:=Q.cnt;have b3:=Q.v1;have b4:=Q.v16
 obtain⟨m,c9⟩:∃x,hp.length=x:=⟨_,rfl⟩
 rw[c9]at c0 hm
 have cZ:(0:Int)<(m:Int):=by omega
 have aD:0<T.n:=by unfold TT.n;omega
 have b0:T.L.ns≤512:=by
  have h1:T.L.ns*1≤T.L.ns*T.n:=Nat.mul_le_mul_left _ (by omega)
  have h2:T.L.ns*T.n=T.L.cnt:=rfl
  omega
 have a2:Hid (∀(X:World) (J:Option Addr) (N:Nat),Below w.heap.size w X→(∀s,s<T.L.ns→stF kt T bl s=0)→OwnT X w.heap.size (.slice J T.L.cnt N) (zDm kt T bl T.L.ns)→Calls Tryz.prog 91 #[.agg #[.int .i64 T.L.K,.int .i64 T.L.M,.int .i64 T.L.C,.int .i64 T.L.V],.slice aE T.L.es.length cE,.slice J T.L.cnt N] X fun e w'=>∃v s,e=.returned (.tuple #[v,.string s])∧w'.ownsRow X.heap.size 9 1 v T.L.V (txV (reV kt T (blW kt T bl)) T.L.V)∧Below X.heap.size X w'):=fun X J N hX ha hB=>by
  have cC:=zD oE (fun q hq=>hX.block q (zG oE q hq))
  have e:=zC5 (kt:=kt) (T:=T) (bl:=bl) T.L.ns ha
  have aU:(zDm kt T bl T.L.ns).length=T.L.cnt:=by rw[e];simp;rfl
  have hI:Ins X J T.L.cnt (blW kt T bl):=fun i hi=>by
   obtain⟨g,c,hv,hg,hc⟩:=hB.row (by omega)
   simp only[Value.slice.injEq]at hv
   refine⟨g,hv.1,hg,?_⟩
   rw[hc i (by omega),e,List.getD_eq_getElem?_getD,List.getElem?_map,List.getElem?_range (show i<T.L.ns*T.n from hi)]
   rfl
  refine (zEL kt T.L.K T.L.M T.L.C T.L.V T.L.es.length cE T.L.cnt N aE J (nmE T.L.es) (lnE T.L.es) (blW kt T bl) X (by omega) (by omega) (by omega) b3 (by omega) (by omega) aG aC (zd rfl cC) (by omega) (fun i hi=> ?_) hI (hG.below hX)).mono ?_
  ·have h1:i/T.n<T.L.ns:=by rw[Nat.div_lt_iff_lt_mul aD];exact hi
   have h2:(blW kt T bl i).size=T.L.C:=zBe (ha _ h1) (Nat.mod_lt _ aD)
   omega
  ·rintro e w' ⟨v,rfl,ho,hb⟩
   exact⟨v,_,rfl,ho,hb⟩
 have Z:Hid (∀X vb,OwnT X w.heap.size vb (zDm kt T bl T.L.ns)→(∀s,s<T.L.ns→stF kt T bl s=0)→∃J N,vb=.slice J T.L.cnt N):=fun X vb h ha=>by
  obtain⟨a,c,e⟩:=zA h
  have e2:=zC5 (kt:=kt) (T:=T) (bl:=bl) T.L.ns ha
  have aU:(zDm kt T bl T.L.ns).length=T.L.cnt:=by rw[e2];simp;rfl
  rw[aU]at e
  exact⟨a,c,e⟩
 have aQ:Hid (∀X:World,Below w.heap.size w X→X.cell? ⟨v,0,none⟩=some (.slice (some ⟨g0,0,none⟩) m cH)∧X.cell? ⟨g0,0,none⟩=some (.pointer (some ⟨A,0,none⟩))∧X.cell? ⟨A,0,none⟩=some (.int .i64 T.L.K)∧X.cell? ⟨A,1,none⟩=some (.int .i64 T.L.M)∧X.cell? ⟨A,2,none⟩=some (.int .i64 T.L.C)∧X.cell? ⟨A,3,none⟩=some (.int .i64 T.L.V)∧X.cell? ⟨A,5,none⟩=some (.slice aE T.L.es.length cE)):=fun X hX=>
  ⟨(hX.cell (p:=⟨v,0,none⟩) (block_lt_of_cell c0)).trans c0,(hX.cell (p:=⟨g0,0,none⟩) (block_lt_of_cell c1)).trans c1,(hX.cell (p:=⟨A,0,none⟩) (block_lt_of_cell d0)).trans d0,(hX.cell (p:=⟨A,1,none⟩) (block_lt_of_cell d1)).trans d1,(hX.cell (p:=⟨A,2,none⟩) (block_lt_of_cell d2)).trans d2,(hX.cell (p:=⟨A,3,none⟩) (block_lt_of_cell d3)).trans d3,(hX.cell (p:=⟨A,5,none⟩) (block_lt_of_cell d5)).trans d5⟩
 obtain⟨K,hK⟩:∃x,T.L.K=x:=⟨_,rfl⟩
 obtain⟨C,hC⟩:∃x,T.L.C=x:=⟨_,rfl⟩
 obtain⟨M,hM⟩:∃x,T.L.M=x:=⟨_,rfl⟩
 obtain⟨V,hV⟩:∃x,T.L.V=x:=⟨_,rfl⟩
 obtain⟨ne,aF⟩:∃x,T.L.es.length=x:=⟨_,rfl⟩
 obtain⟨cnt,a9⟩:∃x,T.L.cnt=x:=⟨_,rfl⟩
 rw[hK,hM,hC,hV,aF]at aQ
 rw[hK,hM,hC,hV,aF,a9]at a2
 rw[a9]at Z
 have HV:Hid (T.L.V=V):=hV
 obtain⟨ns,aH⟩:∃x,T.L.ns=x:=⟨_,rfl⟩
 have a1:Hid (T.L.ns=ns):=aH
 rw[aH]at b0 a2 Z
 clear H hS hG hl Q a8 hh aV oE c0 c1 d0 d1 d2 d3 d5 hK hC hM hV aF a9 aH aX c8 bY aT b3 b4 aG aC aA aD
 go_enter Tryz.func71,Tryz.ntmps71
 go_wp2_with fail
 refine Calls.mono aN.out ?_
 rintro e D ⟨vk,vb,rfl,aR,R,aI⟩
 rw[a1.out]at R aI
 obtain⟨ak,ck,rfl⟩:=zA R
 have bO:Hid (∀q,q<ns→∃g,ak=some ⟨g,0,none⟩∧D.cell? ⟨g,q,none⟩=some (.int .i64 (stF kt T bl q:Nat))):=fun q hq=>by
  obtain⟨g,e,hc⟩:=zEH R (by simp[zGV]) q (by simp[zGV];exact hq)
  rw[zFg kt T bl ns q hq]at hc
  exact⟨g,e,hc⟩
 have u:Hid _:=aR
 have aO:Hid (OwnT D w.heap.size vb (zDm kt T bl ns)):=aI
 clear aR R aI
 go_wp2_with fail
 go_loopw [8] (fun iv wr=>∃s:Nat,s≤ns∧iv=.int .i64 s∧(∀x,x<s→stF kt T bl x=0)∧wr=D) (fun iv _=>ns-(intOf iv).toNat)
 case atStart=>exact⟨0,by omega,rfl,fun x hx=>by omega,rfl⟩
 case round=>
  obtain⟨s,hs,rfl,b5,b6⟩:=hrel
  rw[b6]
  clear b6
  have G:Hid (∀x,x<s→stF kt T bl x=0):=b5
  clear b5
  by_cases aY:s<ns
  ·have aZ:(s:Int)<(ns:Int):=by omega
   have d4:(0:Int)≤(s:Int):=by omega
   obtain⟨g,bX,hc⟩:=bO.out s aY
   subst bX
   obtain⟨k,hk⟩:∃x,stF kt T bl s=x:=⟨_,rfl⟩
   rw[hk]at hc
   by_cases aW:k=0
   ·subst aW
    go_wp2_with fail
    go_roundw
    case rel=>exact⟨s+1,by omega,by go_num,fun x hx=>by
     rcases Nat.lt_succ_iff_lt_or_eq.1 hx with h|h
     ·exact G.out x h
     ·rw[h];exact hk,by first|rfl|trivial⟩
    case measure=>simp[intOf];omega
   ·have aX:((k:Int) != 0)=true:=by rw[bne_iff_ne];omega
    have cW:¬(k:Int)=0:=by omega
    have cX:((k:Int) == 0)=false:=by simp;omega
    have bS:Hid (stF kt T bl s≠0):=fun e=>aW (by rw[←hk];exact e)
    clear hk
    go_wp2_with fail
    refine Calls.mono (aP.out D u.out) ?_
    rintro e w2 ⟨vo,vm,vl,F,n,rfl,aS,cF,cD,cA,b2⟩
    have W:Hid _:=aS
    have bQ:Hid (OwnT w2 D.heap.size vl (zA5 kt T bl T.L.es.length)):=b2
    clear aS cF cD cA b2
    go_wp2_with fail
    refine Calls.mono (zBg 14 (s:Int) w2) ?_
    rintro e w3 ⟨cI,rfl,ho,a6⟩
    have HO:Hid (Mk w3 w.heap.size cI [(14,(s:Int))]):=zAJ ho (Nat.le_trans u.out.size W.out.size)
    have HL:Hid (OwnT w3 w.heap.size vl (zA5 kt T bl T.L.es.length)):=(bQ.out.below a6).base u.out.size
    have bL:Hid (Below w.heap.size w w3):=(u.out.trans (W.out.mono u.out.size)).trans (a6.mono (Nat.le_trans u.out.size W.out.size))
    clear ho a6
    go_wp2_with fail
    go_ret3
    exact⟨_,_,_,rfl,bL.out,.inr ⟨s,by rw[a1.out];exact aY,bS.out,G.out,rfl,HO.out,HL.out⟩⟩
  ·obtain rfl:s=ns:=by omega
   have aZ:¬(s:Int)<(s:Int):=by omega
   obtain⟨J,N,rfl⟩:=Z.out D vb aO.out G.out
   have HC:Hid (∀X:World,Below D.heap.size D X→Calls Tryz.prog 91 #[.agg #[.int .i64 K,.int .i64 M,.int .i64 C,.int .i64 V],.slice aE ne cE,.slice J cnt N] X fun e w'=>∃v s,e=.returned (.tuple #[v,.string s])∧w'.ownsRow X.heap.size 9 1 v V (txV (reV kt T (blW kt T bl)) V)∧Below X.heap.size X w'):=fun X hX=>a2.out X J N (u.out.trans (hX.mono u.out.size)) G.out (aO.out.below hX)
   have U:Hid (∀X:World,Below D.heap.size D X→X.cell? ⟨v,0,none⟩=some (.slice (some ⟨g0,0,none⟩) m cH)∧X.cell? ⟨g0,0,none⟩=some (.pointer (some ⟨A,0,none⟩))∧X.cell? ⟨A,0,none⟩=some (.int .i64 K)∧X.cell? ⟨A,1,none⟩=some (.int .i64 M)∧X.cell? ⟨A,2,none⟩=some (.int .i64 C)∧X.cell? ⟨A,3,none⟩=some (.int .i64 V)∧X.cell? ⟨A,5,none⟩=some (.slice aE ne cE)):=fun X hX=>aQ.out X (u.out.trans (hX.mono u.out.size))
   obtain⟨v0,v1,v2,v3,v4,v5,v6⟩:=U.out D (Below.refl _ _)
   go_wp2_with fail
   go_region_held3 (fun X=>X.cell? ⟨v,0,none⟩=some (.slice (some ⟨g0,0,none⟩) m cH)∧X.cell? ⟨g0,0,none⟩=some (.pointer (some ⟨A,0,none⟩))∧X.cell? ⟨A,0,none⟩=some (.int .i64 K)∧X.cell? ⟨A,1,none⟩=some (.int .i64 M)∧X.cell? ⟨A,2,none⟩=some (.int .i64 C)∧X.cell? ⟨A,3,none⟩=some (.int .i64 V)∧X.cell? ⟨A,5,none⟩=some (.slice aE ne cE)) (go_keep) ((go_at_call 91;refine Calls.mono (HC.out _ (by first|exact Below.refl _ _|exact (Below.refl _ _).drew)) ?_;rintro e w7 ⟨vv,rs,rfl,b1,a7⟩;have a4:Below D.heap.size D w7:=(by first|exact a7|exact ((Below.refl _ _).drew).trans a7);obtain⟨q0,q1,q2,q3,q4,q5,q6⟩:=U.out w7 a4))
   have HO:Hid (w7.ownsRow w.heap.size 9 1 vv V (txV (reV kt T (blW kt T bl)) V)):=zAJ b1 u.out.size
   have bM:Hid (Below w.heap.size w w7):=u.out.trans (a4.mono u.out.size)
   clear b1 a7 a4 q0 q1 q2 q3 q4 q5 q6
   go_wp2_with fail
   go_ret3
   refine⟨_,_,_,rfl,bM.out,.inl ⟨fun x hx=>G.out x (by rw[a1.out]at hx;exact hx),rfl,rfl,?_⟩⟩
   rw[HV.out]
   exact HO.out
end Go.Proofs.YtlopecgkiikdhaaGreatDoor
namespace Go.Proofs.YtlopecgkiikdhaaGreatDoor
open Go.RowKit Go.MuLone
set_option maxRecDepth 100000
set_option maxHeartbeats 4000000
def zOj (er:Value)(l:Value)(m:Nat)(w:World):Prop:=(m=0∧er=.nilIface)∨(0<m∧∃eg mg:Nat,er=.iface 150 (.pointer (some ⟨eg,0,none⟩))∧w.heap[eg]? =some (.cells #[.int .i64 14,.int .i64 m,.iface 166 (.pointer (some ⟨mg,0,none⟩))] 152 (0,0))∧w.heap[mg]? =some (.cells #[l] 169 (0,0)))
theorem zOs (m:Nat)(a:Option Addr)(c:Nat)(w:World):Calls Tryz.prog 125 #[.int .i64 m,.slice a m c] w fun e w'=>∃u F:Nat,e=.returned (.iface 150 (.pointer (some ⟨u,0,none⟩)))∧w'.heap[u]? =some (.cells #[.int .i64 14,.int .i64 m,.iface 166 (.pointer (some ⟨F,0,none⟩))] 152 (0,0))∧w'.heap[F]? =some (.cells #[.slice a m c] 169 (0,0))∧Below w.heap.size w w':=by
 have J:Hid (∀(b:Addr) (W:World),Calls Tryz.prog 75 #[.int .i64 14,.int .i64 m,.iface 166 (.pointer (some b))] W fun e w'=>∃g:Nat,e=.returned (.iface 150 (.pointer (some ⟨g,0,none⟩)))∧w'.heap[g]? =some (.cells #[.int .i64 14,.int .i64 m,.iface 166 (.pointer (some b))] 152 (0,0))∧Below W.heap.size W w'):=fun b W=>by
  go_enter Tryz.func75,Tryz.ntmps75
  go_wp2
  go_ret
  exact⟨_,rfl,heap_alloc_new _ _,(Below.refl _ _).alloc (Nat.le_refl _) _⟩
 go_enter Tryz.func125,Tryz.ntmps125
 go_wp2_with fail
 refine Calls.mono (J.out _ _) ?_
 rintro e N ⟨g,rfl,A,D⟩
 have G:Hid _:=A
 have j:Hid _:=D
 clear A D
 go_wp2_with fail
 go_ret
 have hb:Below w.heap.size w (w.alloc (.cells #[.slice a m c] 169)):=(Below.refl _ _).alloc (Nat.le_refl _) _
 exact⟨_,_,rfl,G.out,by rw[j.out.block w.heap.size (by simp)];exact heap_alloc_new _ _,hb.trans (j.out.mono hb.size)⟩
def zPt (kt:Nat→Int)(B k g p q f:Nat)(T:TT)(un:Value)(ul:List Nat)(rd:Nat→Bool)(bl:Nat→ByteArray)(w:World)(e:Ending)(w':World):Prop:=
 ∃v er l F n H m,e=.returned (.tuple #[v,er])∧zOh kt B k g p q f T un ul rd bl w v l F n H m w'∧zOj er l m w'
theorem zGv (kt:Nat→Int)(B k g p q f:Nat)(T:TT)(un:Value)(ul:List Nat)(rd:Nat→Bool)(bl:Nat→ByteArray)(dn:Nat→Bool)(zs:Nat→Nat)(N:Nat→Value)(w:World)(h:VS kt B k g p q f T un ul rd bl dn zs N w)(Z:zt T)(j:T.L.es.length≤16∧zM T.L.es≤4096)(W:Gd kt w)(hB:B≤w.heap.size):
 Calls Tryz.prog 88 #[.pointer (some ⟨k,0,none⟩)] w (zPt kt B k g p q f T un ul rd bl w):=by
 have HP:Hid _:=zFw kt B k g p q f T un ul rd bl dn zs N w h Z j W hB
 clear h Z j W
 go_enter Tryz.func88,Tryz.ntmps88
 go_wp2_with fail
 refine Calls.mono HP.out ?_
 rintro e w1 ⟨v,l,F,n,H,m,rfl,X⟩
 have HD:Hid (zOh kt B k g p q f T un ul rd bl w v l F n H m w1):=X
 clear X
 obtain⟨a,c,hl⟩:=zA HD.out.2.2.2.2.1
 subst hl
 obtain⟨ao,co,hv⟩:=zA HD.out.2.2.1
 subst hv
 by_cases hm:0<m
 ·have G:(0:Int)<(m:Int):=by omega
  go_wp2_with fail
  refine Calls.mono (zOs m a c w1) ?_
  rintro e w2 ⟨eg,mg,rfl,Q,R,U⟩
  have H1:Hid _:=Q
  have H2:Hid _:=R
  have u:Hid _:=U
  clear Q R U
  go_wp2_with fail
  go_ret2
  obtain⟨⟨D,J,A,q1⟩,q2,q3,q4,q5,q6⟩:=HD.out
  exact⟨_,_,_,F,n,H,m,rfl,⟨⟨D,J,A,q1.below u.out⟩,q2.thenBelow u.out,zI q3 u.out,q4,zI q5 u.out,q6⟩,.inr ⟨hm,eg,mg,rfl,H1.out,H2.out⟩⟩
 ·have G:¬(0:Int)<(m:Int):=by omega
  go_wp2_with fail
  go_ret2
  exact⟨_,_,_,F,n,H,m,rfl,HD.out,.inl ⟨by omega,rfl⟩⟩
def VUn (kt:Nat→Int)(B v k g p q f:Nat)(T:TT)(un:Value)(ul:List Nat)(rd:Nat→Bool)(bl:Nat→ByteArray)(w:World)(vo er:Value)(w':World):Prop:=
 ∃l F n H m,VK kt B v k g p q f T un ul rd bl w'∧Fr (fun j=>j=q∨j=f∨j=v) w w'∧OwnF w' w.heap.size vo n F∧zEZ F n=zEa kt T bl T.L.es.length∧w'.ownsRow w.heap.size 9 1 l m (tV H m)∧zh H m=zA5 kt T bl T.L.es.length∧zOj er l m w'
theorem zFF (kt:Nat→Int)(B v k g p q f:Nat)(T:TT)(un:Value)(ul:List Nat)(rd:Nat→Bool)(bl:Nat→ByteArray)(w:World)(h:VK kt B v k g p q f T un ul rd bl w)(hT:zt T)(a1:T.L.es.length≤16∧zM T.L.es≤4096)(hG:Gd kt w)(hB:B≤w.heap.size)(h2:v≠3):
 Calls Tryz.prog 65 #[.pointer (some ⟨v,0,none⟩)] w fun e w'=>∃D er,e=.returned (.tuple #[D,er])∧VUn kt B v k g p q f T un ul rd bl w D er w':=by
 obtain⟨Q,dn,zs,bd,h⟩:=h
 have G:Fr (fun j=>j=v) w (w.setCell ⟨v,0,none⟩ (.int .i32 1)):=(Fr.refl (fun j=>j=v) w).set (.inl rfl) _ _
 refine Calls.mono (zHq v k w (fun a2 w'=>∃D er,a2=.tuple #[D,er]∧VUn kt B v k g p q f T un ul rd bl w D er w') Q ?_) ?_
 ·refine Calls.mono (zGv kt B k g p q f T un ul rd bl dn zs bd _ (h.set Q (.inr rfl) _ _) hT a1 (hG.fr G (fun e=>h2 e.symm)) (Nat.le_trans hB G.size)) ?_
  rintro e w' ⟨D,er,l,F,n,H,m,rfl,⟨⟨U,a4,R,hS⟩,hF,hO,Z,hL,X⟩,hE⟩
  have u:VL v k 1 w':=by
   have A:=VL.one Q
   have J:=h.set Q (.inr rfl) 0 (.int .i32 1)
   unfold VL at A ⊢
   rw[hF.old v (Array.getElem?_eq_some_iff.1 A).1 (fun e=>by
    rcases e with e|e
    ·exact zE A J.blR (by decide) e
    ·exact zE A J.fiR (by decide) e)]
   exact A
  have e1:(w.setCell ⟨v,0,none⟩ (.int .i32 1)).heap.size=w.heap.size:=by simp[World.setCell]
  rw[e1]at hO hL
  refine⟨_,_,rfl,u,D,er,rfl,l,F,n,H,m,⟨u.zero,U,a4,R,hS.set u (.inr rfl) _ _⟩,?_,zAE hO u (by decide) _,Z,zAE hL u (by decide) _,X,?_⟩
  ·exact ((G.mono (T:=fun j=>j=q∨j=f∨j=v) (fun j _ e=>.inr (.inr e))).trans' (hF.mono (fun j _ e=>by rcases e with e|e;exact .inl e;exact .inr (.inl e)))).set (.inl (.inr (.inr rfl))) _ _
  ·rcases hE with W|⟨W,eg,mg,A,h3,h4⟩
   ·exact .inl W
   ·exact .inr ⟨W,eg,mg,A,(zC _ _ _ _ _ (zE h3 u (by decide))).trans h3,(zC _ _ _ _ _ (zE h4 u (by decide))).trans h4⟩
 ·rintro e w' ⟨a,b,rfl,D,er,N,A⟩
  exact⟨D,er,by rw[N],A⟩
end Go.Proofs.YtlopecgkiikdhaaGreatDoor
namespace Go.Proofs.YtlopecgkiikdhaaGreatDoor
open Go.RowKit Go.Extern.Stop Go.Stop Go.Extern
theorem zBX (j:Nat)(h:j=167∨j=166)(t:Addr)(w:World):
 (ReflectliteValue.unpack (.iface j (.pointer (some t)))).run Tryz.prog w=.ok (rv j ⟨w.heap.size,0,none⟩ 150) (w.alloc (.cells #[.pointer (some t)] j)):=by
 rcases h with rfl|rfl<;>kernel_rfl
theorem zBx (j:Nat)(h:j=167∨j=166)(w:World):
 ((ReflectliteType.abiMethod fun t=>(fun a:Nat=>Value.int IntKind.u8 (a:Int))<$>Rtype.kind t) #[.pointer (some ⟨7,j,none⟩)]).run Tryz.prog w=.ok (.int .u8 22) w:=by
 rcases h with rfl|rfl<;>kernel_rfl
theorem zBN (u:Nat)(j:Nat)(h:(u=167∧j=150)∨(u=166∧j=406)∨(u=166∧j=150))(a:Addr)(w:World):
 (ReflectliteValue.parts (rv u a j)).run Tryz.prog w=.ok (some (u,a,j)) w:=by
 rcases h with ⟨rfl,rfl⟩|⟨rfl,rfl⟩|⟨rfl,rfl⟩<;>kernel_rfl
theorem zCv (a p:Addr)(W:World)(j:W.cell? a=some (.pointer (some p))):
 (ReflectliteValue.method (ReflectliteValue.valueError "reflectlite.Value.IsNil" 0) ReflectliteValue.isNil #[rv 167 a 150]).run Tryz.prog W=.ok (.bool false) W:=by
 have hp:(ReflectliteValue.parts (rv 167 a 150)).run Tryz.prog W=.ok (some (167,a,150)) W:=zBN 167 150 (.inl ⟨rfl,rfl⟩) a W
 change (ReflectliteValue.parts (rv 167 a 150)>>=_).run Tryz.prog W=_
 simp only[Sem.run_bind,hp,Result.andThen]
 simp[ReflectliteValue.isNil,loadVar,isAgg,underlying,Tryz.underlying167,j,Result.andThen]
theorem zJo (a p:Addr)(W:World)(A:W.cell? a=some (.pointer (some p))):
 (ReflectliteValue.method (ReflectliteValue.valueError "reflectlite.Value.Elem" 0) ReflectliteValue.elem #[rv 167 a 150]).run Tryz.prog W=.ok (rv 166 p 406) W:=by
 have hp:(ReflectliteValue.parts (rv 167 a 150)).run Tryz.prog W=.ok (some (167,a,150)) W:=zBN 167 150 (.inl ⟨rfl,rfl⟩) a W
 have j:(Rtype.elem? 167).run Tryz.prog W=.ok (some 166) W:=by kernel_rfl
 have u:(ReflectliteValue.mk 166 p ReflectliteValue.flagAddr).run Tryz.prog W=.ok (rv 166 p 406) W:=by kernel_rfl
 change (ReflectliteValue.parts (rv 167 a 150)>>=_).run Tryz.prog W=_
 simp only[Sem.run_bind,hp,Result.andThen]
 simp[ReflectliteValue.elem,loadVar,isAgg,underlying,Tryz.underlying167,A,Result.andThen,j,u]
theorem zMK (j b e:Addr)(old:Value)(W:World)(hb:W.cell? b=some (.pointer (some e)))(G:W.cell? j=some old)(hf:W.frozen? j=false):
 (ReflectliteValue.set #[rv 166 j 406,rv 166 b 150]).run Tryz.prog W=.ok (.tuple #[]) (W.setCell j (.pointer (some e))):=by
 have hp:(ReflectliteValue.parts (rv 166 j 406)).run Tryz.prog W=.ok (some (166,j,406)) W:=zBN 166 406 (.inr (.inl ⟨rfl,rfl⟩)) j W
 have F:(ReflectliteValue.parts (rv 166 b 150)).run Tryz.prog W=.ok (some (166,b,150)) W:=zBN 166 150 (.inr (.inr ⟨rfl,rfl⟩)) b W
 have hd:(Rtype.directlyAssignable 166 166).run Tryz.prog W=.ok true W:=by kernel_rfl
 change (ReflectliteValue.parts (rv 166 j 406)>>=_).run Tryz.prog W=_
 have u:∀A D,(ReflectliteValue.parts ((#[rv 166 j 406,rv 166 b 150]:Array Value).getLit (n:=2) 1 A D)).run Tryz.prog W=.ok (some (166,b,150)) W:=fun _ _=>F
 simp only[Sem.run_bind,hp,u,Result.andThen]
 simp[ReflectliteValue.flagAddr,loadVar,isAgg,underlying,Tryz.underlying166,hb,Result.andThen,hd,storeVar,Value.cells,storeCells,Addr.add]
 rw[run_store Tryz.prog W j _ _ (by rfl)]
 simp[G,hf]
abbrev msA (w:World)(t:Addr):World:=w.alloc (.cells #[.pointer (some t)] 167)
abbrev msB (w:World)(t:Addr):World:=(msA w t).alloc (.cells #[.pointer (some ⟨7,167,none⟩),.pointer (some ⟨w.heap.size,0,none⟩),.int .u64 150] 196)
abbrev msC (w:World)(t:Addr):World:=(msB w t).alloc (.cells #[.pointer (some ⟨7,167,none⟩),.pointer (some ⟨w.heap.size,0,none⟩),.int .u64 150] 196)
abbrev msD (w:World)(t m:Addr):World:=(msC w t).alloc (.cells #[.pointer (some m)] 166)
theorem zEy (w:World)(t x:Addr)(h:x.block<w.heap.size):(msB w t).cell? x=w.cell? x:=by
 rw[World.cell?_alloc_lt _ _ x (by simp;omega),World.cell?_alloc_lt _ _ x h]
theorem zEz (w:World)(t x:Addr)(h:x.block<w.heap.size):(msC w t).cell? x=w.cell? x:=by
 rw[World.cell?_alloc_lt _ _ x (by simp;omega)];exact zEy w t x h
theorem zMJ (w:World)(t e x:Addr)(h:x.block<w.heap.size):(msD w t e).cell? x=w.cell? x:=by
 rw[World.cell?_alloc_lt _ _ x (by simp;omega)];exact zEz w t x h
theorem zGc (w:World)(t e x:Addr)(h:x.block<w.heap.size):(msD w t e).frozen? x=w.frozen? x:=by
 rw[World.frozen?_alloc_old _ _ x (by simp;omega),World.frozen?_alloc_old _ _ x (by simp;omega),World.frozen?_alloc_old _ _ x (by simp;omega),World.frozen?_alloc_old _ _ x (by omega)]
theorem zEx (w:World)(t:Addr):(msB w t).cell? ⟨w.heap.size,0,none⟩=some (.pointer (some t)):=by simp
theorem zMH (w:World)(t:Addr):(msC w t).cell? ⟨w.heap.size,0,none⟩=some (.pointer (some t)):=by
 rw[World.cell?_alloc_lt _ _ _ (by simp;omega)];exact zEx w t
theorem zMI (w:World)(t e:Addr):(msD w t e).cell? ⟨w.heap.size+1+1+1,0,none⟩=some (.pointer (some e)):=by
 rw[World.cell?_alloc_at _ _ _ _ (by simp)];rfl
set_option maxRecDepth 100000 in
set_option maxHeartbeats 4000000 in
theorem zG9 (D:Nat)(m t:Addr)(old:Value)(w:World)(J:w.cell? ⟨1,0,none⟩=some (.iface 238 (rt 41)))(G:w.cell? ⟨D,2,none⟩=some (.iface 166 (.pointer (some m))))(A:w.cell? t=some old)(F:w.frozen? t=false):
 Calls Tryz.prog 80 #[.iface 150 (.pointer (some ⟨D,0,none⟩)),.iface 167 (.pointer (some t))] w fun N w'=>N=.returned (.bool true)∧w'=(msD w t m).setCell t (.pointer (some m)):=by
 have tl:t.block<w.heap.size:=block_lt_of_cell A
 have R:=(zEy w t ⟨1,0,none⟩ (block_lt_of_cell J)).trans J
 have Q:=(zEz w t ⟨D,2,none⟩ (block_lt_of_cell G)).trans G
 have U:=zOV
 have W:=zOW
 have X:=zOX
 have Z:=zOY
 have a4:=zPn
 have a5:=zPo
 have a6:=zOZ
 have a7:=zOa
 have a8:=zOb
 have a9:=zOc
 have aA:=zBX 167 (.inl rfl)
 have aK:=zBX 166 (.inr rfl)
 have aG:=zBx 167 (.inl rfl)
 have aM:=zBx 166 (.inr rfl)
 have aB:∀(a:Addr) (u:World),(ReflectliteValue.methodAny (ReflectliteValue.valueError "reflectlite.Value.Type" 0) (fun t _ _ _=>ReflectliteType.toType t) #[rv 167 a 150]).run Tryz.prog u=.ok (.iface 238 (rt 167)) u:=fun a u=>by kernel_rfl
 have aD:∀(v:Value) (u:World),(ReflectliteType.typeOf #[.iface 150 v]).run Tryz.prog u=.ok (.iface 238 (rt 150)) u:=fun v u=>by kernel_rfl
 have aL:∀(v:Value) (u:World),(ReflectliteType.typeOf #[.iface 166 v]).run Tryz.prog u=.ok (.iface 238 (rt 166)) u:=fun v u=>by kernel_rfl
 have aI:∀u:World,(ReflectliteType.method ReflectliteType.elem #[rt 167]).run Tryz.prog u=.ok (.iface 238 (rt 166)) u:=fun u=>by kernel_rfl
 have aJ:∀u:World,(ReflectliteType.relation "Implements" ReflectliteType.implements_ #[rt 166,.iface 238 (rt 41)]).run Tryz.prog u=.ok (.bool true) u:=fun u=>by kernel_rfl
 have aH:∀u:World,(ReflectliteType.relation "AssignableTo" ReflectliteType.assignableTo #[rt 150,.iface 238 (rt 166)]).run Tryz.prog u=.ok (.bool false) u:=fun u=>by kernel_rfl
 have aN:∀u:World,(ReflectliteType.relation "AssignableTo" ReflectliteType.assignableTo #[rt 166,.iface 238 (rt 166)]).run Tryz.prog u=.ok (.bool true) u:=fun u=>by kernel_rfl
 have mK:=zOg
 have mE:=zOe
 have mI:=zOf
 have mA:=zOd
 have mU:∀(h:Value) (u:World),(Go.method 453 150 h "Unwrap").run Tryz.prog u=.ok (250,h) u:=fun h u=>by kernel_rfl
 have a1:∀(v:Value) (j:TypeId) (u:World),(Instr.typeAssert (.iface 150 v) j 243 true).run Tryz.prog u=.ok (.tuple #[.nilIface,.bool false]) u:=fun v j u=>run_typeAssert_lacksB Tryz.underlying243 (by kernel_rfl) (by kernel_rfl) v j u
 have a2:∀(v:Value) (j:TypeId) (u:World),(Instr.typeAssert (.iface 150 v) j 246 true).run Tryz.prog u=.ok (.tuple #[.iface 150 v,.bool true]) u:=fun v j u=>run_typeAssert_hasB Tryz.underlying246 (by kernel_rfl) v j u
 have aC:=zCv ⟨w.heap.size,0,none⟩ t (msB w t) (zEx w t)
 have aE:=zJo ⟨w.heap.size,0,none⟩ t (msC w t) (zMH w t)
 have aF:=zMK t ⟨w.heap.size+1+1+1,0,none⟩ m old (msD w t m) (zMI w t m) ((zMJ w t m t tl).trans A) ((zGc w t m t tl).trans F)
 dsimp only[XR,rt,rv,msA,msB,msC,msD]at*
 go_enter Tryz.func80,Tryz.ntmps80
 go_wp2
 refine wp_loop_rounds 2 ?_
 rw[rounds_succ]
 go_wp2
 rw[rounds_succ]
 go_wp2
 go_ret
 exact⟨rfl,rfl⟩
end Go.Proofs.YtlopecgkiikdhaaGreatDoor
namespace Go.Proofs.YtlopecgkiikdhaaGreatDoor
open Go.RowKit
set_option maxRecDepth 100000
set_option maxHeartbeats 4000000
def NmD (w:World)(H:Nat→ByteArray)(m:Nat)(e:Ending)(w':World):Prop:=∃v,e=.returned v∧w'.ownsRow w.heap.size 9 1 v m (tV H m)∧Below w.heap.size w w'
theorem zBz (w:World):(w.alloc (.cells #[] 9)).ownsRow w.heap.size 9 1 (.slice (some ⟨w.heap.size,0,none⟩) 0 0) 0 []:=⟨rfl,.inr ⟨w.heap.size,0,#[],rfl,Nat.le_refl _,heap_alloc_new _ _,Nat.le_refl _,by unfold maxLen;omega,rfl,rfl⟩⟩
theorem zD9 (H:Nat→ByteArray)(w:World):Calls Tryz.prog 54 #[.nilIface] w (NmD w H 0):=by
 have j:Hid (∀t W,Calls Tryz.prog 80 #[.nilIface,t] W fun e w'=>e=.returned (.bool false)∧w'=W):=fun t W=>zHA t W
 go_enter Tryz.func54,Tryz.ntmps54
 go_wp2_with fail
 refine Calls.mono (j.out _ _) ?_
 rintro e u ⟨rfl,rfl⟩
 go_wp2_with fail
 go_ret
 exact⟨_,rfl,zI (zBz w) ((Below.refl _ _).alloc (Nat.le_refl _) _),((Below.refl _ _).alloc (Nat.le_refl _) _).alloc (by simp) _⟩
theorem zGf (eg G B m c:Nat)(a:Option Addr)(H:Nat→ByteArray)(w:World)(hg:w.cell? ⟨1,0,none⟩=some (.iface 238 (rt 41)))(he:w.heap[eg]? =some (.cells #[.int .i64 14,.int .i64 m,.iface 166 (.pointer (some ⟨G,0,none⟩))] 152 (0,0)))(hm:w.heap[G]? =some (.cells #[.slice a m c] 169 (0,0)))(ho:w.ownsRow B 9 1 (.slice a m c) m (tV H m))(aN:m≤1000):
 Calls Tryz.prog 54 #[.iface 150 (.pointer (some ⟨eg,0,none⟩))] w (NmD w H m):=by
 obtain⟨D,Z⟩:∃D,(w.alloc (.cells #[] 9)).alloc (.cells #[.pointer none] 166)=D:=⟨_,rfl⟩
 have F:Below w.heap.size w D:=by rw[←Z];exact ((Below.refl _ _).alloc (Nat.le_refl _) _).alloc (by simp) _
 have s1:D.heap.size=w.heap.size+2:=by rw[←Z];simp
 have ht:D.heap[w.heap.size+1]? =some (.cells #[.pointer none] 166 (0,0)):=by
  rw[←Z]
  have:=heap_alloc_new (w.alloc (.cells #[] 9)) (.cells #[.pointer none] 166)
  have e:(w.alloc (.cells #[] 9)).heap.size=w.heap.size+1:=by simp
  rw[e]at this
  exact this
 have U:D.ownsRow w.heap.size 9 1 (.slice (some ⟨w.heap.size,0,none⟩) 0 0) 0 []:=by rw[←Z];exact zI (zBz w) ((Below.refl _ _).alloc (Nat.le_refl _) _)
 have aA:D.heap[eg]? =_:=(F.block eg (Array.getElem?_eq_some_iff.1 he).1).trans he
 have R:D.heap[G]? =_:=(F.block G (Array.getElem?_eq_some_iff.1 hm).1).trans hm
 have aB:D.cell? ⟨1,0,none⟩=some (.iface 238 (rt 41)):=(F.cell (p:=⟨1,0,none⟩) (block_lt_of_cell hg)).trans hg
 have X:=zI ho F
 have a1:Hid _:=zG9 eg ⟨G,0,none⟩ ⟨w.heap.size+1,0,none⟩ (.pointer none) D aB (cell_of_row _ _ _ _ 152 _ aA) (cell_of_row _ _ _ _ 166 _ ht) (frozen_of_row _ _ _ _ 166 ht)
 obtain⟨W,hW⟩:∃W,(msD D ⟨w.heap.size+1,0,none⟩ ⟨G,0,none⟩).setCell ⟨w.heap.size+1,0,none⟩ (.pointer (some ⟨G,0,none⟩))=W:=⟨_,rfl⟩
 rw[hW]at a1
 have N:Below D.heap.size D (msD D ⟨w.heap.size+1,0,none⟩ ⟨G,0,none⟩):=((((Below.refl _ _).alloc (Nat.le_refl _) _).alloc (by simp) _).alloc (by simp;omega) _).alloc (by simp;omega) _
 have A:∀j,j<D.heap.size→j≠w.heap.size+1→W.heap[j]? =D.heap[j]? :=fun j hj aL=>by
  rw[←hW,zC _ _ _ _ _ aL]
  exact N.block j hj
 have t1:W.cell? ⟨w.heap.size+1,0,none⟩=some (.pointer (some ⟨G,0,none⟩)):=by
  rw[←hW]
  exact cell_of_row _ _ _ _ 166 _ (zH _ _ 0 _ _ _ _ ((N.block _ (by omega)).trans ht))
 have aD:W.heap[G]? =some (.cells #[.slice a m c] 169 (0,0)):=(A G (Array.getElem?_eq_some_iff.1 R).1 (zE R ht (by decide))).trans R
 have m0:W.cell? ⟨G,0,none⟩=some (.slice a m c):=cell_of_row _ _ _ _ 169 _ aD
 have aE:W.ownsRow B 9 1 (.slice a m c) m (tV H m):=zD X (fun y hy=>A y (zG X y hy) (fun e=>by
  obtain⟨cur,J⟩:=zB X y hy
  exact zE J ht (by decide) e))
 have a2:W.ownsRow w.heap.size 9 1 (.slice (some ⟨w.heap.size,0,none⟩) 0 0) 0 []:=zD U (fun y hy=>A y (zG U y hy) (fun e=>by
  obtain⟨cur,J⟩:=zB U y hy
  exact zE J ht (by decide) e))
 have Q:Below w.heap.size w W:=by rw[←hW];exact (F.trans (N.mono F.size)).setCell (p:=⟨w.heap.size+1,0,none⟩) (by show w.heap.size≤w.heap.size+1;omega) _
 obtain⟨i0,aJ,z0,z1,z2⟩:=info_parts zD1
 obtain⟨v',w3,hr,a4,aC,_⟩:=zV 22 Tryz.underlying22 aJ z0 z1 z2 rfl (by decide) a2 aE (by
  intro u hu
  unfold tV at hu
  obtain⟨j,_,rfl⟩:=List.mem_map.1 hu
  rfl) (by omega) (by omega) Q.size
 rw[Nat.zero_add,List.nil_append]at a4
 have a7:Hid _:=hr
 have aG:Hid _:=a4
 have aF:Hid (Below w.heap.size w w3):=Q.grown aC Q.size (fun y hy=>zK a2 y hy)
 obtain⟨tb,aM⟩:∃tb,w.heap.size+1=tb:=⟨_,rfl⟩
 rw[aM]at t1 a1
 clear F s1 ht U aA R aB X hW N A aD aE a2 Q hr a4 aC hg he hm ho
 go_enter Tryz.func54,Tryz.ntmps54
 go_wp2_with fail
 refine Calls.mono a1.out ?_
 rintro e w2 ⟨rfl,rfl⟩
 go_wp2_with (at_builtin;refine zJ rfl (.tmp 9) (.tmp 13) 22 rfl _ _ _ (by simp[Act.eval]) (by simp[Act.eval]) _ a7.out ?_)
 go_ret
 exact⟨v',rfl,aG.out,aF.out⟩
theorem zJm (er l:Value)(B m:Nat)(H:Nat→ByteArray)(w:World)(F:w.cell? ⟨1,0,none⟩=some (.iface 238 (rt 41)))(h:zOj er l m w)(D:w.ownsRow B 9 1 l m (tV H m))(j:m≤1000):
 Calls Tryz.prog 24 #[er] w (NmD w H m):=by
 have N:Hid (Calls Tryz.prog 54 #[er] w (NmD w H m)):=by
  rcases h with ⟨rfl,rfl⟩|⟨_,Q,R,rfl,u,A⟩
  ·exact zD9 H w
  ·obtain⟨a,c,rfl⟩:=zA D
   exact zGf Q R B m c a H w F u A D j
 clear h D F
 go_enter Tryz.func24,Tryz.ntmps24
 go_wp2_with fail
 refine Calls.mono N.out ?_
 rintro e U ⟨v,rfl,u,A⟩
 have G:Hid _:=u
 have J:Hid _:=A
 clear u A
 go_wp2_with fail
 go_ret
 exact⟨v,rfl,G.out,J.out⟩
end Go.Proofs.YtlopecgkiikdhaaGreatDoor
