import Derived.Test.YtlopecgkiikdhaaGreatDoorX25
namespace Go.Proofs.YtlopecgkiikdhaaGreatDoor
open Go.RowKit
set_option maxRecDepth 100000
set_option maxHeartbeats 8000000
def RpA (un:Value)(bd:Nat→Value)(dn:Nat→Bool)(ns:Nat)(l:List Value):Prop:=l.Pairwise Apt∧∀x∈l,∀j,x.ownBlock=some j→¬zH8 un bd dn ns j
def zPu (kt:Nat→Int)(B k g p q f:Nat)(T:TT)(un:Value)(ul:List Nat)(rd:Nat→Bool)(bl:Nat→ByteArray)(dn:Nat→Bool)(w:World)(e:Ending)(w':World):Prop:=
 ∃(zs':Nat→Nat) (bd':Nat→Value) (a b c d u:Value),e=.returned (.agg (zAc a b c d u))∧VS kt B k g p q f T un ul rd bl (dnS dn T.L.ns) zs' bd' w'∧Fr (fun j=>j=q∨j=f) w w'∧
  w'.ownsRow w.heap.size 3 1 a ul.length (unV ul)∧w'.ownsRow w.heap.size 3 1 b (abF rd T.L.V).length (unV (abF rd T.L.V))∧w'.ownsRow w.heap.size 3 1 c (baF kt T bl T.L.ns).length (unV (baF kt T bl T.L.ns))∧w'.ownsRow w.heap.size 3 1 d (fsF kt T bl 1 T.L.ns).length (unV (fsF kt T bl 1 T.L.ns))∧w'.ownsRow w.heap.size 3 1 u (fsF kt T bl 2 T.L.ns).length (unV (fsF kt T bl 2 T.L.ns))∧RpA un bd' (dnS dn T.L.ns) T.L.ns [a,b,c,d,u]
theorem RL.rpa {u r:Nat}{L:List (Value×List Nat)}{un:Value}{j:Nat→Value}{dn:Nat→Bool}{ns:Nat}{w:World}(h:RL u r L (zH8 un j dn ns) w):RpA un j dn ns (L.map Prod.fst):=
 ⟨List.pairwise_map.2 h.apt,fun x A=>by
  obtain⟨y,D,rfl⟩:=List.mem_map.1 A
  exact h.far y D⟩
theorem zEd (u:Value):Apt u (.slice none 0 0):=fun _ _ h=>by cases h
theorem zJC (u:Value):Apt (.slice none 0 0) u:=fun _ h _=>by cases h
theorem zBZ (w:World)(B:Nat):w.ownsRow B 3 1 (.slice none 0 0) ([]:List Nat).length (unV []):=⟨rfl,.inl ⟨rfl,rfl⟩⟩
theorem VR.start {kt:Nat→Int}{B k g p q f:Nat}{T:TT}{un:Value}{ul:List Nat}{rd:Nat→Bool}{bl:Nat→ByteArray}{dn:Nat→Bool}{zs:Nat→Nat}{Z:Nat→Value}{w W F R:World}{v:Value}{r:Nat}(h:VS kt B k g p q f T un ul rd bl dn zs Z w)(A:Below w.heap.size w W)(G:W.heap[w.heap.size]? =some (.cells zHy 133 (0,0)))(u:Below W.heap.size W F)(ho:F.ownsRow W.heap.size 3 1 v ul.length (unV ul))(hr:F.heap.size=r)
 (hX:F.alloc (.cells (zAc v (.slice none 0 0) (.slice none 0 0) (.slice none 0 0) (.slice none 0 0)) 133)=R):VR kt B k g p q f T un ul rd bl dn zs Z w w.heap.size r [(v,ul),(.slice none 0 0,[]),(.slice none 0 0,[]),(.slice none 0 0,[]),(.slice none 0 0,[])] R:=by
 have U:=(Array.getElem?_eq_some_iff.1 G).1
 have D:Below F.heap.size F R:=by rw[←hX];exact (Below.refl _ _).alloc (Nat.le_refl _) _
 have J:Below w.heap.size w R:=A.trans ((u.trans (D.mono u.size)).mono A.size)
 have a5:=u.size
 refine⟨h.below J,⟨?_,?_,?_,?_⟩,?_,by omega,⟨Nat.le_refl _,by omega⟩,Fr.below J⟩
 ·rw[←hX,←hr];exact heap_alloc_new _ _
 ·intro x Q
  simp only[List.mem_cons,List.not_mem_nil,or_false]at Q
  rcases Q with rfl|rfl|rfl|rfl|rfl
  ·exact zP (zI ho D) A.size
  ·exact zBZ _ _
  ·exact zBZ _ _
  ·exact zBZ _ _
  ·exact zBZ _ _
 ·simp[zEd]
 ·intro x Q j N X
  simp only[List.mem_cons,List.not_mem_nil,or_false]at Q
  rcases Q with rfl|rfl|rfl|rfl|rfl
  ·have h1:=zK ho j N
   have h2:=h.outs j X
   omega
  ·cases N
  ·cases N
  ·cases N
  ·cases N
 ·rw[(u.trans (D.mono u.size)).block _ U];exact G
theorem Gd.ne {kt:Nat→Int}{w:World}{j n:Nat}{t:TypeId}{F:Nat→Value}(h:Gd kt w)(G:Rw w j n t F)(J:∀i x,F i≠ .int .u32 x):j≠3:=fun e=>by
 subst e
 have A:=h.tab 0 (by omega)
 rcases Nat.eq_zero_or_pos n with D|D
 ·subst D
  have u:w.heap[3]? =some (.cells (zCl 0 F) t (0,0)):=G
  have:zCl 0 F= #[]:=Array.eq_empty_of_size_eq_zero (zAr 0 F)
  rw[this]at u
  simp[World.cell?,u]at A
 ·rw[G.cell 0 D]at A
  exact J 0 _ (Option.some.inj A)
theorem Gd.fr {kt:Nat→Int}{w w':World}{S:Nat→Prop}(h:Gd kt w)(j:Fr S w w')(u:¬S 3):Gd kt w':=
 ⟨fun k hk=>(j.cell (g:=3) (by have:=h.one;omega) u k).trans (h.tab k hk),Nat.le_trans h.one j.size⟩
theorem VS.gd {kt:Nat→Int}{B k g p q f:Nat}{T:TT}{un:Value}{ul:List Nat}{rd:Nat→Bool}{bl:Nat→ByteArray}{dn:Nat→Bool}{F:Nat→Nat}{A:Nat→Value}{w w':World}(h:VS kt B k g p q f T un ul rd bl dn F A w)(u:Gd kt w)(D:Fr (fun j=>j=q∨j=f) w w'):Gd kt w':=
 u.fr D (fun e=>by
  rcases e with e|e
  ·exact u.ne h.blR (fun i x=>by unfold tX;simp) e.symm
  ·exact u.ne h.fiR (fun i x=>by unfold fiP;split<;>simp) e.symm)
theorem zId {A w:World}{u q f:Nat}{D:Array Value}(h:w.heap[u]? =some (.cells D 133 (0,0)))(J:A.heap.size≤u)(G:Fr (fun j=>j=q∨j=f) A w)(i:Nat)(v:Value):(w.setCell ⟨u,i,none⟩ v).heap[u]? =some (.cells (D.setIfInBounds i v) 133 (0,0))∧Fr (fun j=>j=q∨j=f) A (w.setCell ⟨u,i,none⟩ v)∧(∀(j:Nat) (c:Array Value) (t:TypeId),t≠133→w.heap[j]? =some (.cells c t (0,0))→(w.setCell ⟨u,i,none⟩ v).heap[j]? =some (.cells c t (0,0))):=
 ⟨zH _ _ _ _ _ _ _ h,G.set (.inr J) _ _,fun j c t N F=>by rw[zC _ _ _ _ _ (zE F h N)];exact F⟩
theorem VS.all {kt:Nat→Int}{B k g p q f:Nat}{T:TT}{un:Value}{ul:List Nat}{rd:Nat→Bool}{bl:Nat→ByteArray}{dn:Nat→Bool}{J:Nat→Nat}{G:Nat→Value}{w w':World}(h:VS kt B k g p q f T un ul rd bl dn J G w)(F:∀(j:Nat) (A:Array Value) (t:TypeId),t≠133→w.heap[j]? =some (.cells A t (0,0))→w'.heap[j]? =some (.cells A t (0,0))):VS kt B k g p q f T un ul rd bl dn J G w':=
 h.kept (fun j A t N D=>F j A t (by rcases N with e|e|e|e|e|e|e<;>simp[e]) D) (fun j D=>by
  rcases D with e|⟨s,hs,hd,e⟩
  ·obtain⟨cur,u⟩:=zB h.unO j e
   rw[F _ _ _ (by decide) u,u]
  ·obtain⟨cur,u⟩:=zB (h.fn s hs hd).2 j e
   rw[F _ _ _ (by decide) u,u])
theorem zp {w w':World}{B n:Nat}{v:Value}{A:List Value}(h:w.ownsRow B 3 1 v n A)(F:∀(j:Nat) (u:Array Value) (t:TypeId),t≠133→w.heap[j]? =some (.cells u t (0,0))→w'.heap[j]? =some (.cells u t (0,0))):w'.ownsRow B 3 1 v n A:=zF h (fun j u _ D=>F j u 3 (by decide) D)
theorem zGy (kt:Nat→Int)(B k g p q f:Nat)(T:TT)(un:Value)(ul:List Nat)(rd:Nat→Bool)(bl:Nat→ByteArray)(dn:Nat→Bool)(zs:Nat→Nat)(bd:Nat→Value)(w:World)(h:VS kt B k g p q f T un ul rd bl dn zs bd w)(hT:zt T)(cI:T.L.es.length≤16∧zM T.L.es≤4096)(cN:ul.length≤10000000000000)(hG:Gd kt w)(hB:B≤w.heap.size):
 Calls Tryz.prog 84 #[.pointer (some ⟨k,0,none⟩)] w fun e w'=>zPu kt B k g p q f T un ul rd bl dn w e w':=by
 have H:Hid _:=h
 have cH:k<w.heap.size:=(Array.getElem?_eq_some_iff.1 h.row).1
 have c8:Hid (∀X:World,Below w.heap.size w X→Calls Tryz.prog 119 #[un] X fun e w'=>∃v',e=.returned v'∧w'.ownsRow X.heap.size 3 1 v' ul.length (unV ul)∧Below X.heap.size X w'):=fun X hX=>zLT B ul.length un ul X (zI h.unO hX) cN
 have k1:w.cell? ⟨k,1,none⟩=some un:=cell_of_row _ _ _ _ 114 _ h.row
 obtain⟨W,hW⟩:∃W,w.alloc (.cells zHy 133)=W:=⟨_,rfl⟩
 have b4:Below w.heap.size w W:=by rw[←hW];exact (Below.refl _ _).alloc (Nat.le_refl _) _
 have bH:W.heap[w.heap.size]? =some (.cells zHy 133 (0,0)):=by rw[←hW];exact heap_alloc_new _ _
 have kw:W.cell? ⟨k,1,none⟩=some un:=(b4.cell (p:=⟨k,1,none⟩) cH).trans k1
 obtain⟨au,cu,cO⟩:=zA h.unO
 subst cO
 have aT:Hid _:=b4
 have cD:Hid _:=bH
 have cA:Hid _:=cI
 have cF:w.alloc (.cells #[.slice none 0 0,.slice none 0 0,.slice none 0 0,.slice none 0 0,.slice none 0 0] 133)=W:=hW
 clear h b4 bH k1 hW
 go_enter Tryz.func84,Tryz.ntmps84
 go_wp2_with fail
 refine Calls.mono (c8.out W aT.out) ?_
 rintro e w1 ⟨v1,rfl,b5,b3⟩
 obtain⟨a1,c1,aR⟩:=zA b5
 subst aR
 obtain⟨r,hr⟩:∃r,w1.heap.size=r:=⟨_,rfl⟩
 obtain⟨X0,aO⟩:∃X,w1.alloc (.cells #[.slice a1 ul.length c1,.slice none 0 0,.slice none 0 0,.slice none 0 0,.slice none 0 0] 133)=X:=⟨_,rfl⟩
 have bA:Hid _:=VR.start H.out aT.out cD.out b3 b5 hr aO
 have d9:=b3.size
 have dA:=aT.out.size
 obtain⟨r0,bJ⟩:∃r0,w.heap.size=r0:=⟨_,rfl⟩
 have y2:X0.cell? ⟨k,2,none⟩=some (.slice (some ⟨p,0,none⟩) T.L.V T.L.V):=cell_of_row _ _ _ _ 114 _ bA.out.vs.row
 obtain⟨V,bG⟩:∃x,T.L.V=x:=⟨_,rfl⟩
 have bL:=hT.v16
 rw[bG]at y2 bL
 have bB:Hid _:=bG
 rw[←aO]at y2
 have HR:Hid _:=hr
 have HX:Hid _:=aO
 have b9:Hid _:=bJ
 clear b3 b5 kw hr aO bJ cF
 go_wp2_with fail
 rw[HX.out,HR.out,b9.out]
 clear y2
 go_loopw [19] (fun iv wr=>∃(i:Nat) (va:Value),i≤V∧iv=.int .i64 i∧VR kt B k g p q f T (.slice au ul.length cu) ul rd bl dn zs bd w r0 r [(.slice a1 ul.length c1,ul),(va,abF rd i),(.slice none 0 0,[]),(.slice none 0 0,[]),(.slice none 0 0,[])] wr) (fun iv _=>V-(intOf iv).toNat)
 case atStart=>exact⟨0,_,by omega,rfl,by have:=bA.out;rw[b9.out]at this;exact this⟩
 case round=>
  obtain⟨i,va,hi,rfl,hI⟩:=hrel
  have HI:Hid _:=hI
  by_cases a2:i<V
  ·have d1:wr.cell? ⟨p,i,none⟩=some (.bool (rd i)):=hI.vs.rdR.cell i (by rw[bB.out];exact a2)
   have cG:(i:Int)<(V:Int):=by omega
   cases hrd:rd i with
   |true=>
    rw[hrd]at d1
    have aX:Hid _:=hrd
    clear hI hrd
    go_wp2_with fail
    go_roundw
    case rel=>exact⟨i+1,va,by omega,by go_num,by rw[abF,if_pos aX.out];exact HI.out⟩
    case measure=>simp[intOf];omega
   |false=>
    rw[hrd]at d1
    have dY:=zC4 rd i
    obtain⟨v',w2,a4,b0,A⟩:=VR.one (l1:=[(.slice a1 ul.length c1,ul)]) i hI (by omega)
    have G:Hid _:=a4
    have cC:Hid _:=b0
    have d2:wr.cell? ⟨r,1,none⟩=some va:=cell_of_row _ _ _ _ 133 _ hI.rl.row
    have m1:w2.cell? ⟨r,1,none⟩=some va:=cell_of_row _ _ _ _ 133 _ A
    have m2:=frozen_of_row w2 r 1 _ 133 A
    have aX:Hid _:=hrd
    obtain⟨av,cv,a5⟩:∃a c,va=.slice a (abF rd i).length c:=zA (hI.rl.own (va,abF rd i) (by simp))
    obtain⟨aB,aC,Q⟩:∃a c,v'=.slice a ((abF rd i).length+1) c:=by have:=zA (b0.rl.own (v',abF rd i++[i]) (by simp));rw[show (v',abF rd i++[i]).2.length=(abF rd i).length+1 by simp]at this;exact this
    subst a5 Q
    clear hI hrd a4 b0 A
    go_wp2_with (at_builtin;refine zJ rfl (.tmp 27) (.tmp 29) 23 rfl _ _ _ (by simp[Act.eval]) (by simp[Act.eval]) _ G.out ?_)
    refine⟨⟨i+1,.slice aB ((abF rd i).length+1) aC,by omega,by go_num,?_⟩,by simp[intOf];omega⟩
    have:=cC.out
    rw[abF,if_neg (by rw[aX.out];simp)]
    exact this
  ·have ei:i=V:=by omega
   subst ei
   obtain⟨ns,N⟩:∃x,T.L.ns=x:=⟨_,rfl⟩
   have y4:wr.cell? ⟨k,4,none⟩=some (.slice (some ⟨f,0,none⟩) ns ns):=by rw[←N];exact cell_of_row _ _ _ _ 114 _ hI.vs.row
   have cJ:0<T.n:=by have:=hT.k1;unfold TT.n;omega
   have cK:ns*T.n≤512:=by rw[←N];exact hT.cnt
   have aW:Hid _:=N
   clear hI
   go_wp2_with fail
   clear y4
   go_loopw [38] (fun sv wr=>∃(s:Nat) (aS:Nat→Nat) (aM:Nat→Value) (vb vs vf:Value),s≤ns∧sv=.int .i64 s∧VR kt B k g p q f T (.slice au ul.length cu) ul rd bl (dnS dn s) aS aM w r0 r [(.slice a1 ul.length c1,ul),(va,abF rd i),(vb,baF kt T bl s),(vs,fsF kt T bl 1 s),(vf,fsF kt T bl 2 s)] wr) (fun sv _=>ns-(intOf sv).toNat)
   case atStart=>exact⟨0,zs,bd,_,_,_,by omega,rfl,by rw[zLX];exact HI.out⟩
   case round=>
    obtain⟨s,aS,aM,vb,vs,vf,cM,rfl,F⟩:=hrel
    have R:Hid _:=F
    by_cases a2:s<ns
    ·have cB:Hid _:=zAw kt B k g p q f s T (.slice au ul.length cu) ul rd bl (dnS dn s) aS aM wr F.vs hT cA.out (H.out.gd hG F.fr) (Nat.le_trans hB F.fr.size) (by rw[N];exact a2)
     have cG:(s:Int)<(ns:Int):=by omega
     clear F
     go_wp2_with fail
     refine Calls.mono cB.out ?_
     rintro e w1 ⟨aK,a7,rfl,aR,bE,h1,h2⟩
     have J:=VR.stripe R.out aR bE h1 h2
     rw[zC8]at J
     clear aR bE h1 h2
     have aQ:dnS dn (s+1) s=true:=by simp[dnS]
     have cZ:=zEg kt T bl s
     have d0:s*T.n≤512:=Nat.le_trans (Nat.mul_le_mul_right _ cM) cK
     have d6:(stB kt T bl s).length≤T.n:=zBo _ _ _
     have d7:T.n≤255:=hT.km
     have d8:s≤512:=by have:s*1≤s*T.n:=Nat.mul_le_mul_left s cJ;omega
     have cX:=zA8 kt T bl 1 s
     have cY:=zA8 kt T bl 2 s
     obtain⟨v',w2,a4,aD,A⟩:=VR.more (l1:=[(.slice a1 ul.length c1,ul),(va,abF rd i)]) s J (by rw[N];exact a2) aQ (by omega) (by omega)
     have G:Hid _:=a4
     have dC:Hid _:=aD
     have m1:w2.cell? ⟨r,2,none⟩=some vb:=cell_of_row _ _ _ _ 133 _ A
     have m2:=frozen_of_row w2 r 2 _ 133 A
     have d2:w1.cell? ⟨r,2,none⟩=some vb:=cell_of_row _ _ _ _ 133 _ J.rl.row
     obtain⟨zr,_⟩:=J.vs.fn s (by rw[N];exact a2) aQ
     obtain⟨z,hz⟩:∃z,aK s=z:=⟨_,rfl⟩
     rw[hz]at zr ⊢
     have d3:w1.cell? ⟨z,0,none⟩=some (a7 s):=cell_of_row _ _ _ _ 216 _ zr
     obtain⟨Y,hY⟩:∃Y,w2.setCell ⟨r,2,none⟩ v'=Y:=⟨_,rfl⟩
     have D:VR kt B k g p q f T (.slice au ul.length cu) ul rd bl (dnS dn (s+1)) aK a7 w r0 r [(.slice a1 ul.length c1,ul),(va,abF rd i),(v',baF kt T bl (s+1)),(vs,fsF kt T bl 1 s),(vf,fsF kt T bl 2 s)] Y:=by rw[←hY];exact aD
     obtain⟨aJ,_⟩:=D.vs.fn s (by rw[N];exact a2) aQ
     obtain⟨fa,aE⟩:∃x,stF kt T bl s=x:=⟨_,rfl⟩
     rw[hz,aE]at aJ
     have d4:Y.cell? ⟨z,1,none⟩=some (.int .i64 fa):=cell_of_row _ _ _ _ 216 _ aJ
     have c9:Hid _:=D
     have aU:Hid _:=aE
     obtain⟨ab,cb,aG⟩:∃a c,vb=.slice a (baF kt T bl s).length c:=zA (J.rl.own (vb,baF kt T bl s) (by simp))
     obtain⟨aY,aZ,aH⟩:∃a c,v'=.slice a (baF kt T bl (s+1)).length c:=zA (D.rl.own (v',baF kt T bl (s+1)) (by simp))
     obtain⟨ad,cd,aP⟩:∃a c,a7 s=.slice a (stB kt T bl s).length c:=zA (J.vs.fn s (by rw[N];exact a2) aQ).2
     rw[aP]at d3 G
     by_cases e1:fa=1
     ·subst e1
      obtain⟨v3,w3,aF,Z,u⟩:=VR.one (l1:=[(.slice a1 ul.length c1,ul),(va,abF rd i),(v',baF kt T bl (s+1))]) s D (by omega)
      have U:Hid _:=aF
      have aV:Hid _:=Z
      have m3:w3.cell? ⟨r,3,none⟩=some vs:=cell_of_row _ _ _ _ 133 _ u
      have m4:=frozen_of_row w3 r 3 _ 133 u
      have d5:Y.cell? ⟨r,3,none⟩=some vs:=cell_of_row _ _ _ _ 133 _ D.rl.row
      obtain⟨av,cv,a5⟩:∃a c,vs=.slice a (fsF kt T bl 1 s).length c:=zA (D.rl.own (vs,fsF kt T bl 1 s) (by simp))
      obtain⟨aB,aC,Q⟩:∃a c,v3=.slice a ((fsF kt T bl 1 s).length+1) c:=by have:=zA (Z.rl.own (v3,fsF kt T bl 1 s++[s]) (by simp));rw[show (v3,fsF kt T bl 1 s++[s]).2.length=(fsF kt T bl 1 s).length+1 by simp]at this;exact this
      subst aG aH a5 Q
      clear J aD D Z a4 aF A u zr aJ aE aP
      go_wp2_with fail
      go_region_law (refine zAF rfl (.tmp 45) (.tmp 49) 23 rfl _ _ _ (by simp[Act.eval]) (by simp[Act.eval]) _ G.out ?_)
      all_goals go_wp2_with (at_builtin;refine zJ rfl (.tmp 59) (.tmp 61) 23 rfl _ _ _ (by simp[Act.eval]) (by simp[Act.eval]) _ U.out ?_)
      all_goals (refine⟨⟨s+1,aK,a7,.slice aY (baF kt T bl (s+1)).length aZ,.slice aB ((fsF kt T bl 1 s).length+1) aC,vf,by omega,by go_num,?_⟩,by simp[intOf];omega⟩;rw[fsF,fsF,aU.out,if_pos rfl,if_neg (by omega)];exact aV.out)
     ·by_cases e2:fa=2
      ·subst e2
       obtain⟨v3,w3,aF,Z,u⟩:=VR.one (l1:=[(.slice a1 ul.length c1,ul),(va,abF rd i),(v',baF kt T bl (s+1)),(vs,fsF kt T bl 1 s)]) s D (by omega)
       have U:Hid _:=aF
       have aV:Hid _:=Z
       have m3:w3.cell? ⟨r,4,none⟩=some vf:=cell_of_row _ _ _ _ 133 _ u
       have m4:=frozen_of_row w3 r 4 _ 133 u
       have d5:Y.cell? ⟨r,4,none⟩=some vf:=cell_of_row _ _ _ _ 133 _ D.rl.row
       obtain⟨av,cv,a5⟩:∃a c,vf=.slice a (fsF kt T bl 2 s).length c:=zA (D.rl.own (vf,fsF kt T bl 2 s) (by simp))
       obtain⟨aB,aC,Q⟩:∃a c,v3=.slice a ((fsF kt T bl 2 s).length+1) c:=by have:=zA (Z.rl.own (v3,fsF kt T bl 2 s++[s]) (by simp));rw[show (v3,fsF kt T bl 2 s++[s]).2.length=(fsF kt T bl 2 s).length+1 by simp]at this;exact this
       subst aG aH a5 Q
       clear J aD D Z a4 aF A u zr aJ aE aP
       go_wp2_with fail
       go_region_law (refine zAF rfl (.tmp 45) (.tmp 49) 23 rfl _ _ _ (by simp[Act.eval]) (by simp[Act.eval]) _ G.out ?_)
       all_goals go_wp2_with (at_builtin;refine zJ rfl (.tmp 67) (.tmp 69) 23 rfl _ _ _ (by simp[Act.eval]) (by simp[Act.eval]) _ U.out ?_)
       all_goals (refine⟨⟨s+1,aK,a7,.slice aY (baF kt T bl (s+1)).length aZ,vs,.slice aB ((fsF kt T bl 2 s).length+1) aC,by omega,by go_num,?_⟩,by simp[intOf];omega⟩;rw[fsF,fsF,aU.out,if_neg (by omega),if_pos rfl];exact aV.out)
      ·have b1:((fa:Int) == 1)=false:=by simp;omega
       have b2:((fa:Int) == 2)=false:=by simp;omega
       subst aG aH
       clear J aD D a4 A zr aJ aE aP
       go_wp2_with fail
       go_region_law (refine zAF rfl (.tmp 45) (.tmp 49) 23 rfl _ _ _ (by simp[Act.eval]) (by simp[Act.eval]) _ G.out ?_)
       all_goals go_wp2_with fail
       all_goals (refine⟨⟨s+1,aK,a7,.slice aY (baF kt T bl (s+1)).length aZ,vs,vf,by omega,by go_num,?_⟩,by simp[intOf];omega⟩;rw[fsF,fsF,aU.out,if_neg (by omega),if_neg (by omega)];exact c9.out)
    ·have es:s=ns:=by omega
     subst es
     obtain⟨ab,cb,aG⟩:∃a c,vb=.slice a (baF kt T bl s).length c:=zA (F.rl.own (vb,baF kt T bl s) (by simp))
     obtain⟨aL,cs,cQ⟩:∃a c,vs=.slice a (fsF kt T bl 1 s).length c:=zA (F.rl.own (vs,fsF kt T bl 1 s) (by simp))
     obtain⟨af,cf,cP⟩:∃a c,vf=.slice a (fsF kt T bl 2 s).length c:=zA (F.rl.own (vf,fsF kt T bl 2 s) (by simp))
     obtain⟨aa,ca,a5⟩:∃a c,va=.slice a (abF rd i).length c:=zA (F.rl.own (va,abF rd i) (by simp))
     subst aG cQ cP a5
     have c0:wr.cell? ⟨r,0,none⟩=some (.slice a1 ul.length c1):=cell_of_row _ _ _ _ 133 _ F.rl.row
     have dG:wr.cell? ⟨r,1,none⟩=some (.slice aa (abF rd i).length ca):=cell_of_row _ _ _ _ 133 _ F.rl.row
     have c2:wr.cell? ⟨r,2,none⟩=some (.slice ab (baF kt T bl s).length cb):=cell_of_row _ _ _ _ 133 _ F.rl.row
     have c3:wr.cell? ⟨r,3,none⟩=some (.slice aL (fsF kt T bl 1 s).length cs):=cell_of_row _ _ _ _ 133 _ F.rl.row
     have c4:wr.cell? ⟨r,4,none⟩=some (.slice af (fsF kt T bl 2 s).length cf):=cell_of_row _ _ _ _ 133 _ F.rl.row
     have o0:wr.cell? ⟨r0,0,none⟩=some (.slice none 0 0):=cell_of_row _ _ _ _ 133 _ F.r0R
     have o1:wr.cell? ⟨r0,1,none⟩=some (.slice none 0 0):=cell_of_row _ _ _ _ 133 _ F.r0R
     have o2:wr.cell? ⟨r0,2,none⟩=some (.slice none 0 0):=cell_of_row _ _ _ _ 133 _ F.r0R
     have o3:wr.cell? ⟨r0,3,none⟩=some (.slice none 0 0):=cell_of_row _ _ _ _ 133 _ F.r0R
     have o4:wr.cell? ⟨r0,4,none⟩=some (.slice none 0 0):=cell_of_row _ _ _ _ 133 _ F.r0R
     have fz:∀j,wr.frozen? ⟨r0,j,none⟩=false:=fun j=>frozen_of_row _ _ _ _ 133 F.r0R
     clear F
     go_wp2_with fail
     obtain⟨h0,f0,k0⟩:=zId R.out.r0R R.out.lo.1 R.out.fr 0 (.slice a1 ul.length c1)
     obtain⟨h1,f1,k1⟩:=zId h0 R.out.lo.1 f0 1 (.slice aa (abF rd i).length ca)
     obtain⟨h2,f2,k2⟩:=zId h1 R.out.lo.1 f1 2 (.slice ab (baF kt T bl s).length cb)
     obtain⟨h3,f3,k3⟩:=zId h2 R.out.lo.1 f2 3 (.slice aL (fsF kt T bl 1 s).length cs)
     obtain⟨h4,f4,k4⟩:=zId h3 R.out.lo.1 f3 4 (.slice af (fsF kt T bl 2 s).length cf)
     have hk:=fun (j:Nat) (c:Array Value) (t:TypeId) (ht:t≠133) hj=>k4 j c t ht (k3 j c t ht (k2 j c t ht (k1 j c t ht (k0 j c t ht hj))))
     refine bodyPost_ret (v:=.agg (zAc (.slice a1 ul.length c1) (.slice aa (abF rd i).length ca) (.slice ab (baF kt T bl s).length cb) (.slice aL (fsF kt T bl 1 s).length cs) (.slice af (fsF kt T bl 2 s).length cf))) ?_ rfl ?_
     ·exact results_cell_row Tryz.results84 _ _ r0 133 _ (0,0) _ rfl h4 Tryz.underlying133 rfl (by kernel_rfl)
     ·refine⟨aS,aM,_,_,_,_,_,rfl,?_,f4,?_⟩
      ·have:=R.out.vs.all hk
       rw[aW.out]
       exact this
      ·rw[aW.out,bB.out]
       exact⟨zp (R.out.rl.own (.slice a1 ul.length c1,ul) (by simp)) hk,zp (R.out.rl.own (.slice aa (abF rd i).length ca,abF rd i) (by simp)) hk,zp (R.out.rl.own (.slice ab (baF kt T bl s).length cb,baF kt T bl s) (by simp)) hk,zp (R.out.rl.own (.slice aL (fsF kt T bl 1 s).length cs,fsF kt T bl 1 s) (by simp)) hk,zp (R.out.rl.own (.slice af (fsF kt T bl 2 s).length cf,fsF kt T bl 2 s) (by simp)) hk,(by
        have h:=RL.rpa R.out.rl
        rw[aW.out]at h
        exact h)⟩
theorem zEV (kt:Nat→Int)(K M C V nE aB q:Nat)(aE:Option Addr)(Nm:Nat→ByteArray)(Ln:Nat→Nat)(Bk:Nat→ByteArray)(w:World)(hK:K≤100000)(hM:M≤100000)(hC:C≤100000)(d4:1≤V)(hV:V≤1000)(cJ:nE≤1000)
 (hN:∀j,(Nm j).size≤1000) (bM:∀j,Ln j≤100000) (hE:∀j,j<nE→∃b,aE=some ⟨b,0,none⟩∧b<w.heap.size∧w.cell? ⟨b,j*2,none⟩=some (.string (Nm j))∧w.cell? ⟨b,j*2+1,none⟩=some (.int .i64 (Ln j)))
 (hG:Gd kt w):
 Calls Tryz.prog 126 #[.agg #[.int .i64 K,.int .i64 M,.int .i64 C,.int .i64 V],.slice aE nE aB,.slice (some ⟨q,0,none⟩) 0 0] w fun e w'=>∃u,e=.returned (.tuple #[.slice (some ⟨u,0,none⟩) V V,.string (zAX (ofT kt) (zA1 K M C V nE Nm Ln) 0 fun i=>za (ofT kt) (Bk i))])∧w.heap.size≤u∧Rw w' u V 9 (tX (zIy (ofT kt) (zAX (ofT kt) (zA1 K M C V nE Nm Ln) 0 fun i=>za (ofT kt) (Bk i)) (zA1 K M C V nE Nm Ln) 0 (fun i=>za (ofT kt) (Bk i)) Bk V))∧Below w.heap.size w w':=by
 have d6:=run_make_row' (P:=Tryz.prog) 22 9 (.string ⟨#[]⟩) 16 Tryz.underlying22 zAl rfl .i64 .i64 V (by omega) (by omega)
 have aW:Hid _:=zCL K M C V nE Nm Ln hN cJ
 have J:Hid (∀W,Below w.heap.size w W→Calls Tryz.prog 162 #[.agg #[.int .i64 K,.int .i64 M,.int .i64 C,.int .i64 V],.slice aE nE aB] W fun e w'=>e=.returned (.string (zA1 K M C V nE Nm Ln))∧Below W.heap.size W w'):=fun W hW=>
  zCt K M C V nE aB aE Nm Ln W hK hM hC (by omega) (by omega) hN bM (fun j hj=>by
   obtain⟨b,h1,h2,h3,h4⟩:=hE j hj
   exact⟨b,h1,Nat.lt_of_lt_of_le h2 hW.size,(hW.cell (p:=⟨b,j*2,none⟩) h2).trans h3,(hW.cell (p:=⟨b,j*2+1,none⟩) h2).trans h4⟩)
 have HG:Hid (∀W,Below w.heap.size w W→Gd kt W):=fun W hW=>hG.below hW
 clear hN bM hE hG
 obtain⟨l,hl⟩:∃l,zA1 K M C V nE Nm Ln=l:=⟨_,rfl⟩
 rw[hl]at aW J ⊢
 clear hl
 obtain⟨Lf,aL⟩:∃Lf:Nat→ByteArray,(fun i=>za (ofT kt) (Bk i))=Lf:=⟨_,rfl⟩
 have aV:Hid (∀i,(Lf i).size≤32):=fun i=>by rw[←aL];exact Nat.le_of_eq (zw kt _)
 have cB:Hid _:=aL
 rw[aL]
 clear aL
 obtain⟨root,D⟩:∃root,zAX (ofT kt) l 0 Lf=root:=⟨_,rfl⟩
 have cL:root.size=32:=by rw[←D];exact zw kt _
 have cC:Hid _:=D
 rw[D]
 clear D
 obtain⟨VT,b0⟩:∃VT,zIy (ofT kt) root l 0 Lf Bk V=VT:=⟨_,rfl⟩
 have cE:Hid _:=b0
 rw[b0]
 clear b0
 go_enter Tryz.func126,Tryz.ntmps126
 go_wp2_with fail
 obtain⟨Z,aP⟩:∃Z,Z=w.alloc (Obj.cells #[Value.int IntKind.i64 K,Value.int IntKind.i64 M,Value.int IntKind.i64 C,Value.int IntKind.i64 V] 81):=⟨_,rfl⟩
 have aI:Hid (Z.heap[w.heap.size]? =some (.cells #[.int .i64 K,.int .i64 M,.int .i64 C,.int .i64 V] 81 (0,0))):=by
  show _=_
  rw[aP];exact heap_alloc_new _ _
 have G:Hid (Below w.heap.size w Z):=by show Below _ _ _;rw[aP];exact (Below.refl _ _).alloc (Nat.le_refl _) _
 rw[←aP]
 clear aP
 obtain⟨x,hx⟩:∃x,x=w.heap.size:=⟨_,rfl⟩
 rw[←hx]at aI ⊢
 have HX:Hid _:=hx
 clear hx
 have b6:x<Z.heap.size:=(Array.getElem?_eq_some_iff.1 aI.out).1
 refine Calls.mono (J.out Z G.out) ?_
 rintro e s1 ⟨rfl,R⟩
 have aF:Hid (Below Z.heap.size Z s1):=R
 clear R J
 have bG:Hid (Below w.heap.size w s1):=G.out.trans (aF.out.mono G.out.size)
 go_wp2_with fail
 refine (zBl kt Bk (some ⟨q,0,none⟩) 0 0 s1 (by omega) (fun i hi=>by omega) (HG.out _ bG.out) (fun i hi=>by omega)).mono ?_
 rintro e s2 ⟨rfl,bO,U⟩
 have aG:Hid (Below Z.heap.size Z s2):=aF.out.trans (U.mono aF.out.size)
 have a6:Hid (Rw s2 s1.heap.size 0 9 (tI Lf)):=by show Rw s2 s1.heap.size 0 9 (tI Lf);rw[←cB.out];exact bO
 have bH:Hid (Below w.heap.size w s2):=G.out.trans (aG.out.mono G.out.size)
 clear bO U aF bG
 have aN:s1.heap.size<s2.heap.size:=a6.out.lt
 obtain⟨gl,b3⟩:∃gl,gl=s1.heap.size:=⟨_,rfl⟩
 rw[←b3]at a6 aN ⊢
 have cV:Hid _:=b3
 clear b3
 go_wp2_with fail
 refine (zBa kt l Lf gl 0 0 s2 (by have:=aW.out;omega) (by omega) (fun i _=>aV.out i) (HG.out _ bH.out) aN (fun i hi=>a6.out.cell i hi)).mono ?_
 rintro e A ⟨rfl,b2⟩
 rw[cC.out]
 have aH:Hid (Below Z.heap.size Z A):=aG.out.trans (b2.mono aG.out.size)
 have aX:Hid (Rw A gl 0 9 (tI Lf)):=a6.out.below b2 aN
 have aO:gl<A.heap.size:=aX.out.lt
 clear b2 aG a6 bH aN
 have c3:A.cell? ⟨x,3,none⟩=some (.int .i64 V):=cell_of_row _ _ _ _ 81 _ (by rw[aH.out.block x b6];exact aI.out)
 go_wp2
 obtain⟨s4,aQ⟩:∃s4,s4=A.alloc (Obj.cells (madeCells #[Value.string { data:= #[] }] V) 9):=⟨_,rfl⟩
 have bF:Hid (Rw s4 A.heap.size V 9 (fun _=>.string ⟨#[]⟩)):=by show Rw _ _ _ _ _;rw[aQ];exact Rw.made A V 9 _
 have aC:Below A.heap.size A s4:=by rw[aQ];exact (Below.refl _ _).alloc (Nat.le_refl _) _
 rw[←aQ]
 clear aQ c3
 have cW:Hid (Rw s4 gl 0 9 (tI Lf)):=aX.out.below aC aO
 have bZ:Hid (Below A.heap.size A s4):=aC
 clear aC
 obtain⟨u,aM⟩:∃u,u=A.heap.size:=⟨_,rfl⟩
 rw[←aM]at bF aO ⊢
 have a4:Hid _:=aM
 have cO:x<u:=by rw[aM];exact Nat.lt_of_lt_of_le b6 aH.out.size
 clear aM
 have N:Hid (Below w.heap.size w A):=G.out.trans (aH.out.mono G.out.size)
 go_loopw [27] (fun iv wr=>∃v:Nat,v≤V∧iv=.int .i64 v∧Rw wr u V 9 (zL v (tX VT) (.string ⟨#[]⟩))∧Below u A wr) (fun iv _=>V-(intOf iv).toNat)
 case atStart=>exact⟨0,by omega,rfl,bF.out.to (fun j _=>(zo _ _ j).symm),by rw[a4.out];exact bZ.out⟩
 case round=>
  obtain⟨v,hv,rfl,bP,bS⟩:=hrel
  have a7:Hid (Rw wr u V 9 (zL v (tX VT) (.string ⟨#[]⟩))):=bP
  have aU:Hid (Below u A wr):=bS
  clear bP bS
  have bJ:Hid (Below w.heap.size w wr):=N.out.trans (aU.out.mono (by rw[a4.out];exact N.out.size))
  by_cases b5:v<V
  ·have d5:=aW.out
   have q1:((⟨#[86,79,76,49]⟩:ByteArray)++root).size≤100:=by
    rw[ByteArray.size_append,cL]
    have:(⟨#[86,79,76,49]⟩:ByteArray).size=4:=rfl
    omega
   have q2:((⟨#[86,79,76,49]⟩:ByteArray)++root++l).size≤3000000:=by rw[ByteArray.size_append];omega
   have d8:((v:Nat):Int)%4294967296=((v:Nat):Int):=by omega
   have d9:=zO v
   have q3:((⟨#[86,79,76,49]⟩:ByteArray)++root++l++zm v).size≤3000100:=by rw[ByteArray.size_append];omega
   have b4:(jT Lf 0).size≤1000000:=Nat.le_trans (zCI Lf 32 0 (fun i _=>aV.out i)) (by omega)
   have aZ:Hid (zA2 root l 0 Lf v=(⟨#[86,79,76,49]⟩:ByteArray)++root++l++zm v++jT Lf 0):=rfl
   have q4:(zA2 root l 0 Lf v).size≤5000000:=by rw[aZ.out,ByteArray.size_append];omega
   go_wp2_with fail
   refine (zAZ v wr (by omega)).mono ?_
   rintro e w1 ⟨rfl,R⟩
   have a5:Hid (Rw w1 u V 9 (zL v (tX VT) (.string ⟨#[]⟩))):=a7.out.below R a7.out.lt
   have a1:Hid (Below u A w1):=aU.out.trans (R.mono (Nat.le_of_lt a7.out.lt))
   clear R a7 aU bJ
   go_wp2_with fail
   refine (zAs Lf gl 0 0 0 32 w1 (Nat.lt_of_lt_of_le aO (Nat.le_of_lt a5.out.lt)) (Nat.le_refl _) (by omega) (by omega) (fun i _=>aV.out i) (fun i hi=>by rw[Nat.zero_add];exact (a1.out.cell (p:=⟨gl,i,none⟩) aO).trans (aX.out.cell i hi))).mono ?_
   rintro e w2 ⟨rfl,U⟩
   have aS:Hid (Rw w2 u V 9 (zL v (tX VT) (.string ⟨#[]⟩))):=a5.out.below U a5.out.lt
   have a2:Hid (Below u A w2):=a1.out.trans (U.mono (Nat.le_of_lt a5.out.lt))
   clear U a5 a1
   have c3:w2.cell? ⟨x,3,none⟩=some (.int .i64 V):=cell_of_row _ _ _ _ 81 _ (by rw[a2.out.block x cO,aH.out.block x b6];exact aI.out)
   go_wp2_with fail
   rw[←aZ.out]
   have a9:Hid (VT v=zA2 root l 0 Lf v++ofT kt (⟨#[3]⟩++zA2 root l 0 Lf v)++jT (fun i=>Bk (v*0/V+i)) ((v+1)*0/V-v*0/V)):=by
    show VT v=_
    rw[←cE.out];rfl
   obtain⟨X,bW⟩:∃X,zA2 root l 0 Lf v=X:=⟨_,rfl⟩
   rw[bW]at q4 a9 ⊢
   refine (zCX V 0 v w2 (by omega) hV (by omega) (by omega)).mono ?_
   rintro e w3 ⟨rfl,qq,hq⟩
   have z1:v*0/V=0:=by rw[Nat.mul_zero,Nat.zero_div]
   have z2:(v+1)*0/V=0:=by rw[Nat.mul_zero,Nat.zero_div]
   rw[z1,z2]at a9 ⊢
   clear z1 z2
   have F:Hid (Rw w3 u V 9 (zL v (tX VT) (.string ⟨#[]⟩))):=by show Rw _ _ _ _ _;rw[hq];exact aS.out
   have Q:Hid (Below u A w3):=by show Below _ _ _;rw[hq];exact below_drewN a2.out qq
   clear hq aS a2 c3 bW q1 q2 q3 b4 aZ
   have cX:Hid (Below w.heap.size w w3):=N.out.trans (Q.out.mono (by rw[a4.out];exact N.out.size))
   have q5:((⟨#[3]⟩:ByteArray)++X).size≤6000000:=by
    rw[ByteArray.size_append]
    have:(⟨#[3]⟩:ByteArray).size=1:=rfl
    omega
   have bD:Hid (∀W,Below u A W→Calls Tryz.prog 98 #[.string (⟨#[3]⟩++X)] W fun e w'=>e=.returned (.string (ofT kt (⟨#[3]⟩++X)))∧Below W.heap.size W w'):=fun W hW=>by
    have bU:=HG.out W (N.out.trans (hW.mono (by rw[a4.out];exact N.out.size)))
    exact zCP kt _ W (by omega) bU.tab bU.one
   have bE:Hid (∀W,Calls Tryz.prog 165 #[.slice (some ⟨q,0,none⟩) 0 0,.string ⟨#[]⟩] W fun e w'=>e=.returned (.string (jT (fun i=>Bk (0+i)) (0-0)))∧Below W.heap.size W w'):=fun W=>
    (zD2 _ 0 ⟨#[]⟩ W).mono fun e w' ⟨h1,h2⟩=>⟨h1,by rw[h2];exact Below.refl _ _⟩
   have cH:(ofT kt (⟨#[3]⟩++X)).size≤32:=Nat.le_of_eq (zw kt _)
   have b4:(jT (fun i=>Bk (0+i)) (0-0)).size≤100000000:=by show 0≤_;omega
   obtain⟨dg,bT⟩:∃dg,ofT kt (⟨#[3]⟩++X)=dg:=⟨_,rfl⟩
   obtain⟨aR,bV⟩:∃aR,jT (fun i=>Bk (0+i)) (0-0)=aR:=⟨_,rfl⟩
   rw[bT]at a9 bD cH
   rw[bV]at a9 bE b4
   have q6:(X++dg).size≤6000000:=by rw[ByteArray.size_append];omega
   clear bT bV
   have d7:(v:Int)<(V:Int):=by omega
   have cM:=F.out.lt
   have k1:=F.out.cell v b5
   have k2:=F.out.free v
   have cD:Hid (u≤w3.heap.size):=Nat.le_of_lt F.out.lt
   have t1:(⟨#[3]⟩:ByteArray).size=1:=rfl
   have k3:¬(9223372036854775807<(⟨#[3]⟩:ByteArray).size+X.size):=by omega
   have dB:¬(9223372036854775807<1+X.size):=by omega
   have k4:¬(9223372036854775807<X.size+dg.size):=by omega
   have k5:¬(9223372036854775807<(X++dg).size+aR.size):=by omega
   have dC:¬(9223372036854775807<X.size+dg.size+aR.size):=by omega
   go_wp2
   go_region_held3 (fun w'=>w'.frozen? ⟨u,v,none⟩=false) (go_keep) (first|(go_at_call 98;refine Calls.mono (bD.out _ (by first|exact Q.out|exact Q.out.drew)) ?_;rintro e r1 ⟨rfl,bQ⟩;have bL:Below w3.heap.size w3 r1:=(by first|exact bQ|exact ((Below.refl _ _).drew).trans bQ);have a8:Hid (Rw r1 u V 9 (zL v (tX VT) (.string ⟨#[]⟩))):=F.out.below bL cM;have c8:Hid (Below u A r1):=Q.out.trans (bL.mono cD.out);have m1:=a8.out.cell v b5;have m2:=a8.out.free v)|(go_at_call 165;refine Calls.mono (bE.out r1) ?_;rintro e r2 ⟨rfl,hbj⟩;have aY:Hid (Rw r2 u V 9 (zL v (tX VT) (.string ⟨#[]⟩))):=a8.out.below hbj a8.out.lt;have c9:Hid (Below u A r2):=c8.out.trans (hbj.mono (Nat.le_of_lt a8.out.lt));have n1:=aY.out.cell v b5;have n2:=aY.out.free v))
   clear n1 n2 m1 m2 k1 k2
   go_wp2
   go_roundw
   case rel=>exact⟨v+1,by omega,by go_num,(aY.out.put v _).to (fun j _=>by rw[←a9.out,←zN];rfl),c9.out.setCell (Nat.le_refl _) _⟩
   case measure=>simp[intOf];omega
  ·have e:v=V:=by omega
   subst e
   go_wp2
   go_ret2
   exact⟨u,rfl,by rw[a4.out];exact N.out.size,a7.out.to (fun j hj=>by simp[zL,hj]),bJ.out⟩
end Go.Proofs.YtlopecgkiikdhaaGreatDoor
