import Derived.Test.YtlopecgkiikdhaaGreatDoorX32
namespace Go.Proofs.YtlopecgkiikdhaaGreatDoor
open Go.RowKit
set_option maxRecDepth 100000
set_option maxHeartbeats 4000000
theorem zLr:(Tryz.prog.info? 77).map (fun i=>(i.zero,i.size,i.bytes))=some (some (.pointer none),1,8):=by kernel_rfl
def ptV (l:List Nat):List Value:=l.map fun h=>.pointer (some ⟨h,0,none⟩)
theorem zMS (w:World)(x:Nat):(w.alloc (.cells #[.pointer (some ⟨x,0,none⟩)] 77)).ownsRow w.heap.size 77 1 (.slice (some ⟨w.heap.size,0,none⟩) 1 1) 1 [.pointer (some ⟨x,0,none⟩)]:=
 ⟨rfl,.inr ⟨w.heap.size,1,#[.pointer (some ⟨x,0,none⟩)],rfl,Nat.le_refl _,heap_alloc_new _ _,Nat.le_refl _,by unfold maxLen;omega,rfl,rfl⟩⟩
theorem zJY {w:World}{B r k:Nat}{J:TypeId}{N:Array Value}{v:Value}{G:List Nat}(x:Nat)(hr:w.heap[r]? =some (.cells N J (0,0)))(aB:J≠77)(ho:w.ownsRow B 77 1 v G.length (ptV G))(hB:B≤w.heap.size)(hx:G.length≤100000000):
 ∃D F,(Builtin.append_ #[74,74] 74 #[v,.slice (some ⟨w.heap.size,0,none⟩) 1 1]).run Tryz.prog (w.alloc (.cells #[.pointer (some ⟨x,0,none⟩)] 77))=.ok D F∧(F.setCell ⟨r,k,none⟩ D).ownsRow B 77 1 D (G++[x]).length (ptV (G++[x]))∧F.heap[r]? =some (.cells N J (0,0))∧(F.setCell ⟨r,k,none⟩ D).heap[r]? =some (.cells (N.setIfInBounds k D) J (0,0))
  ∧(∀j,j<w.heap.size→j≠r→v.ownBlock≠some j→(F.setCell ⟨r,k,none⟩ D).heap[j]? =w.heap[j]?)∧(B≤r→∀X,Below B X w→Below B X (F.setCell ⟨r,k,none⟩ D)):=by
 obtain⟨i0,a4,z0,z1,z2⟩:=info_parts zLr
 have a9:r<w.heap.size:=(Array.getElem?_eq_some_iff.1 hr).1
 have a8:(w.alloc (.cells #[.pointer (some ⟨x,0,none⟩)] 77)).heap[r]? =some (.cells N J (0,0)):=by rw[heap_alloc_old _ _ a9];exact hr
 have aA:(w.alloc (.cells #[.pointer (some ⟨x,0,none⟩)] 77)).heap.size=w.heap.size+1:=by simp
 obtain⟨D,F,W,a6,hg,hb⟩:=zV 74 Tryz.underlying74 a4 z0 z1 z2 rfl (by decide) (ho.alloc (.cells #[.pointer (some ⟨x,0,none⟩)] 77)) (zMS w x) (by intro u hu;simp at hu;subst hu;rfl) (by omega) (by omega) (by simp;omega)
 have Q:v.ownBlock≠some r:=fun e=>by
  obtain⟨cur,A⟩:=zB ho r e
  rw[hr]at A
  simp only[Option.some.injEq,Obj.cells.injEq]at A
  exact aB A.2.1
 have U:F.heap[r]? =some (.cells N J (0,0)):=by
  rw[hg.block r (by omega) (fun e=>Q e.symm)];exact a8
 have R:D.ownBlock≠some r:=fun e=>by
  rcases hb with h|h
  ·exact Q (h.symm.trans e)
  ·rw[h,aA]at e;have:=Option.some.inj e;omega
 refine⟨D,F,W,?_,U,zH _ _ _ _ _ _ _ U,fun j hj Z h2=> ?_,fun a1 X aC=> ?_⟩
 ·have e2:ptV (G++[x])=ptV G++[.pointer (some ⟨x,0,none⟩)]:=by simp[ptV]
  rw[e2,List.length_append]
  exact zD a6 (fun y hy=>zC _ _ _ _ _ (fun e=>R (by rw[←e];exact hy)))
 ·rw[zC _ _ _ _ _ Z,hg.block j (by omega) (fun e=>h2 e.symm),heap_alloc_old _ _ hj]
 ·have Z:Below B X (w.alloc (.cells #[.pointer (some ⟨x,0,none⟩)] 77)):=aC.alloc hB _
  exact (Z.grown hg (by omega) (fun y hy=>zK ho y hy)).setCell (p:=⟨r,k,none⟩) a1 _
theorem zJX {w:World}{B r k:Nat}{J:TypeId}{N:Array Value}{v:Value}{F:List Nat}(x:Nat)(hr:w.heap[r]? =some (.cells N J (0,0)))(aB:J≠3)(ho:w.ownsRow B 3 1 v F.length (unV F))(hB:B≤w.heap.size)(hx:F.length≤100000000):
 ∃A G,(Builtin.append_ #[23,23] 23 #[v,.slice (some ⟨w.heap.size,0,none⟩) 1 1]).run Tryz.prog (w.alloc (.cells #[.int .i64 x] 3))=.ok A G∧(G.setCell ⟨r,k,none⟩ A).ownsRow B 3 1 A (F++[x]).length (unV (F++[x]))∧G.heap[r]? =some (.cells N J (0,0))∧(G.setCell ⟨r,k,none⟩ A).heap[r]? =some (.cells (N.setIfInBounds k A) J (0,0))
  ∧(∀j,j<w.heap.size→j≠r→v.ownBlock≠some j→(G.setCell ⟨r,k,none⟩ A).heap[j]? =w.heap[j]?)∧(A.ownBlock=v.ownBlock∨A.ownBlock=some (w.heap.size+1))∧(B≤r→∀X,Below B X w→Below B X (G.setCell ⟨r,k,none⟩ A)):=by
 obtain⟨i0,a4,z0,z1,z2⟩:=info_parts zBW
 have a9:r<w.heap.size:=(Array.getElem?_eq_some_iff.1 hr).1
 have aC:(w.alloc (.cells #[.int .i64 x] 3)).ownsRow B 3 1 v F.length (unV F):=ho.alloc _
 have a8:(w.alloc (.cells #[.int .i64 x] 3)).heap[r]? =some (.cells N J (0,0)):=by rw[heap_alloc_old _ _ a9];exact hr
 have aA:(w.alloc (.cells #[.int .i64 x] 3)).heap.size=w.heap.size+1:=by simp
 obtain⟨A,G,W,a6,hg,hb⟩:=zV 23 Tryz.underlying23 a4 z0 z1 z2 rfl (by decide) aC (zDS w x) (by intro u hu;simp at hu;subst hu;rfl) (by omega) (by omega) (by omega)
 have Q:v.ownBlock≠some r:=fun e=>by
  obtain⟨cur,D⟩:=zB ho r e
  rw[hr]at D
  simp only[Option.some.injEq,Obj.cells.injEq]at D
  exact aB D.2.1
 have U:G.heap[r]? =some (.cells N J (0,0)):=by
  rw[hg.block r (by omega) (fun e=>Q e.symm)];exact a8
 have R:A.ownBlock≠some r:=fun e=>by
  rcases hb with h|h
  ·exact Q (h.symm.trans e)
  ·rw[h]at e;have:=Option.some.inj e;omega
 refine⟨A,G,W,?_,U,zH _ _ _ _ _ _ _ U,fun j hj Z h2=> ?_,by rw[aA]at hb;exact hb,fun a1 X aD=> ?_⟩
 ·have e1:(F++[x]).length=F.length+1:=by simp
  have e2:unV (F++[x])=unV F++[.int .i64 (x:Nat)]:=by simp[unV]
  rw[e1,e2]
  exact zD a6 (fun y hy=>zC _ _ _ _ _ (fun e=>R (by rw[←e];exact hy)))
 ·rw[zC _ _ _ _ _ Z,hg.block j (by omega) (fun e=>h2 e.symm),heap_alloc_old _ _ hj]
 ·have Z:Below B X (w.alloc (.cells #[.int .i64 x] 3)):=aD.alloc hB _
  exact (Z.grown hg (by omega) (fun y hy=>zK ho y hy)).setCell (p:=⟨r,k,none⟩) a1 _
theorem RHd.keep {kt:Nat→Int}{B:Nat}{t:ByteArray}{h:Nat}{w w':World}(H:RHd kt B t h w)(hk:∀(j:Nat) (cur:Array Value) (D:TypeId),w.heap[j]? =some (.cells cur D (0,0))→(D=84∨D=131∨D=9)→w'.heap[j]? =w.heap[j]?):RHd kt B t h w':=by
 obtain⟨G,J,vE,vL,vB,F,oE,oL,oB⟩:=H
 refine⟨G,J,vE,vL,vB,by rw[hk h _ _ F (.inl rfl)];exact F,zD oE (fun q A=> ?_),zD oL (fun q A=> ?_),zD oB (fun q A=> ?_)⟩
 ·obtain⟨cur,u⟩:=zB oE q A
  exact hk q _ _ u (.inr (.inl rfl))
 ·obtain⟨cur,u⟩:=zB oL q A
  exact hk q _ _ u (.inr (.inr rfl))
 ·obtain⟨cur,u⟩:=zB oB q A
  exact hk q _ _ u (.inr (.inr rfl))
theorem RHd.base {kt:Nat→Int}{B j:Nat}{t:ByteArray}{h:Nat}{w:World}(H:RHd kt B t h w)(hb:j≤B):RHd kt j t h w:=by
 obtain⟨u,A,vE,vL,vB,D,oE,oL,oB⟩:=H
 exact⟨u,Nat.le_trans hb A,vE,vL,vB,D,zP oE hb,zP oL hb,zP oB hb⟩
theorem RRd.head {kt:Nat→Int}{w:World}{t:ByteArray}{p v:Value}{w':World}(H:RRd w t (rdE kt t) p v w')(h:rdE kt t=none):v=.slice none 0 0∧∃g,p=.pointer (some ⟨g,0,none⟩)∧RHd kt w.heap.size t g w':=by
 obtain⟨e,c,g,vE,vL,vB,st,hp,j⟩:=H.good h
 exact⟨e,g,hp,h,j.lh,vE,vL,vB,j.row,j.oE,j.oL,j.oB⟩
def Kp250 (w w':World):Prop:=∀(j:Nat) (cur:Array Value),w.heap[j]? =some (.cells cur 121 (0,0))→w'.heap[j]? =w.heap[j]?
theorem Kp250.below {w w':World}(h:Below w.heap.size w w'):Kp250 w w':=fun j _ u=>h.block j (Array.getElem?_eq_some_iff.1 u).1
theorem Kp250.trans {a b c:World}(h:Kp250 a b)(A:Kp250 b c):Kp250 a c:=fun j cur u=>by rw[A j cur (by rw[h j cur u];exact u),h j cur u]
theorem Kp250.own {w w':World}{B n:Nat}{v:Value}{u:List Value}(h:Kp250 w w')(j:w.ownsRow B 121 2 v n u):w'.ownsRow B 121 2 v n u:=zD j (fun q D=>by
 obtain⟨cur,A⟩:=zB j q D
 exact h q cur A)
structure RV (kt:Nat→Int)(w0:World)(v:Nat)(vH vU:Value)(hs:List (ByteArray×Nat))(un:List Nat)(w:World):Prop where
 row:w.heap[v]? =some (.cells #[vH,vU] 76 (0,0))
 oH:w.ownsRow w0.heap.size 77 1 vH (hs.map Prod.snd).length (ptV (hs.map Prod.snd))
 oU:w.ownsRow w0.heap.size 3 1 vU un.length (unV un)
 hd:∀x∈hs,RHd kt w0.heap.size x.1 x.2 w
 lv:w0.heap.size≤v
 bel:Below w0.heap.size w0 w
theorem RV.low {kt:Nat→Int}{u:World}{v:Nat}{vH vU:Value}{hs:List (ByteArray×Nat)}{un:List Nat}{w w':World}(H:RV kt u v vH vU hs un w)(hb:Below w.heap.size w w'):RV kt u v vH vU hs un w' where
 row:=by rw[hb.block v (Array.getElem?_eq_some_iff.1 H.row).1];exact H.row
 oH:=zD H.oH (fun q j=>hb.block q (zG H.oH q j))
 oU:=zD H.oU (fun q j=>hb.block q (zG H.oU q j))
 hd:=fun x A=>(H.hd x A).below hb
 lv:=H.lv
 bel:=H.bel.trans (hb.mono H.bel.size)
theorem RV.head {kt:Nat→Int}{U:World}{v:Nat}{vH vU:Value}{hs:List (ByteArray×Nat)}{un:List Nat}{w:World}(H:RV kt U v vH vU hs un w){t:ByteArray}{h:Nat}(hh:RHd kt U.heap.size t h w)(hn:hs.length≤100000000):
 ∃G J,(Builtin.append_ #[74,74] 74 #[vH,.slice (some ⟨w.heap.size,0,none⟩) 1 1]).run Tryz.prog (w.alloc (.cells #[.pointer (some ⟨h,0,none⟩)] 77))=.ok G J∧RV kt U v G vU (hs++[(t,h)]) un (J.setCell ⟨v,0,none⟩ G)∧J.heap[v]? =some (.cells #[vH,vU] 76 (0,0))∧Kp250 w (J.setCell ⟨v,0,none⟩ G):=by
 obtain⟨G,J,R,ho,hr,W,hk,N⟩:=zJY (k:=0) h H.row (by decide) H.oH H.bel.size (by simpa using hn)
 have u:∀(j:Nat) (cur:Array Value) (F:TypeId),w.heap[j]? =some (.cells cur F (0,0))→(F=84∨F=131∨F=9∨F=3∨F=121)→(J.setCell ⟨v,0,none⟩ G).heap[j]? =w.heap[j]? :=fun j cur F A D=>by
  refine hk j (Array.getElem?_eq_some_iff.1 A).1 (fun e=> ?_) (fun e=> ?_)
  ·rw[e,H.row]at A
   simp only[Option.some.injEq,Obj.cells.injEq]at A
   have:=A.2.1
   rcases D with h|h|h|h|h<;>(rw[h]at this;exact absurd this (by decide))
  ·obtain⟨Z,Q⟩:=zB H.oH j e
   rw[A]at Q
   simp only[Option.some.injEq,Obj.cells.injEq]at Q
   have:=Q.2.1
   rcases D with h|h|h|h|h<;>(rw[h]at this;exact absurd this (by decide))
 refine⟨G,J,R,⟨W,by rw[List.map_append];exact ho,zD H.oU (fun q hq=> ?_),fun x hx=> ?_,H.lv,N H.lv _ H.bel⟩,hr,fun j cur A=>u j cur 121 A (by simp)⟩
 ·obtain⟨cur,Q⟩:=zB H.oU q hq
  exact u q _ _ Q (by simp)
 ·have X:RHd kt U.heap.size x.1 x.2 w:=by
   rcases List.mem_append.1 hx with h|h
   ·exact H.hd x h
   ·rw[List.mem_singleton.1 h];exact hh
  exact X.keep (fun j cur F A D=>u j cur F A (by rcases D with h|h|h<;>simp[h]))
theorem RV.miss {kt:Nat→Int}{X:World}{v:Nat}{vH vU:Value}{hs:List (ByteArray×Nat)}{un:List Nat}{w:World}(H:RV kt X v vH vU hs un w)(i:Nat)(Z:un.length≤100000000):
 ∃G J,(Builtin.append_ #[23,23] 23 #[vU,.slice (some ⟨w.heap.size,0,none⟩) 1 1]).run Tryz.prog (w.alloc (.cells #[.int .i64 i] 3))=.ok G J∧RV kt X v vH G hs (un++[i]) (J.setCell ⟨v,1,none⟩ G)∧J.heap[v]? =some (.cells #[vH,vU] 76 (0,0))∧Kp250 w (J.setCell ⟨v,1,none⟩ G):=by
 obtain⟨G,J,R,ho,hr,U,hk,_,N⟩:=zJX (k:=1) i H.row (by decide) H.oU H.bel.size Z
 have u:∀(j:Nat) (cur:Array Value) (F:TypeId),w.heap[j]? =some (.cells cur F (0,0))→(F=84∨F=131∨F=9∨F=77∨F=121)→(J.setCell ⟨v,1,none⟩ G).heap[j]? =w.heap[j]? :=fun j cur F A D=>by
  refine hk j (Array.getElem?_eq_some_iff.1 A).1 (fun e=> ?_) (fun e=> ?_)
  ·rw[e,H.row]at A
   simp only[Option.some.injEq,Obj.cells.injEq]at A
   have:=A.2.1
   rcases D with h|h|h|h|h<;>(rw[h]at this;exact absurd this (by decide))
  ·obtain⟨W,Q⟩:=zB H.oU j e
   rw[A]at Q
   simp only[Option.some.injEq,Obj.cells.injEq]at Q
   have:=Q.2.1
   rcases D with h|h|h|h|h<;>(rw[h]at this;exact absurd this (by decide))
 refine⟨G,J,R,⟨U,zD H.oH (fun q hq=> ?_),ho,fun x hx=> ?_,H.lv,N H.lv _ H.bel⟩,hr,fun j cur A=>u j cur 121 A (by simp)⟩
 ·obtain⟨cur,Q⟩:=zB H.oH q hq
  exact u q _ _ Q (by simp)
 ·exact (H.hd x hx).keep (fun j cur F A D=>u j cur F A (by rcases D with h|h|h<;>simp[h]))
theorem zB1 {w:World}{B n c:Nat}{a:Option Addr}{l:List Nat}(h:w.ownsRow B 77 1 (.slice a n c) n (ptV l)){i x:Nat}(u:l[i]? =some x):∃g,a=some ⟨g,0,none⟩∧w.cell? ⟨g,i,none⟩=some (.pointer (some ⟨x,0,none⟩)):=by
 have j:=h.1
 have hi:i<l.length:=(List.getElem?_eq_some_iff.1 u).1
 rcases h.2 with ⟨_,F⟩|⟨g,A,cur,D,_,G,_⟩
 ·simp[ptV]at j;omega
 ·cases D
  have c1:=h.cells (g:=g) rfl i (.pointer (some ⟨x,0,none⟩)) (by simp[ptV,u])
  rw[Addr.add_lit]at c1
  exact⟨g,rfl,by simpa using c1⟩
theorem RHd.cells {kt:Nat→Int}{B:Nat}{t:ByteArray}{h:Nat}{w:World}(H:RHd kt B t h w):w.cell? ⟨h,6,none⟩=some (.int .i64 ((tT t).num:Nat))∧w.cell? ⟨h,4,none⟩=some (.string (tT t).root):=by
 obtain⟨_,_,vE,vL,vB,j,_⟩:=H
 exact⟨cell_of_row _ _ _ _ 84 _ j,cell_of_row _ _ _ _ 84 _ j⟩
theorem zLj {α:Type}{l:List α}{j:Nat}{x:α}(h:l[j]? =some x):∃y,y∈l.head? :=by
 cases l with
 |nil=>simp at h
 |cons y r=>exact⟨y,rfl⟩
def JnD (kt:Nat→Int)(w0:World)(v:Nat)(vH vU:Value)(hs:List (ByteArray×Nat))(un:List Nat)(t:ByteArray)(h i:Nat)(w:World)(e:Ending)(w':World):Prop:=
 ∃r,e=.returned r∧Kp250 w w'∧((r=.slice none 0 0∧(∀x∈hs.head?,zAT x.1 t)∧(∀x∈hs,(tT x.1).num≠(tT t).num)∧∃vH',RV kt w0 v vH' vU (hs++[(t,h)]) un w')∨∃k:Int,w'.ownsRow w0.heap.size 121 2 r 1 (mkL [(k,(i:Int))])∧RV kt w0 v vH vU hs un w'∧((k=12∧∃x∈hs.head?,¬zAT x.1 t)∨(k=13∧(∃x∈hs.head?,zAT x.1 t)∧∃x∈hs,(tT x.1).num=(tT t).num)))
theorem zKw (kt:Nat→Int)(G:World)(v:Nat)(vH vU:Value)(hs:List (ByteArray×Nat))(un:List Nat)(t:ByteArray)(h i:Nat)(w:World)(H:RV kt G v vH vU hs un w)(hh:RHd kt G.heap.size t h w)(hn:hs.length≤100000000):
 Calls Tryz.prog 21 #[.pointer (some ⟨v,0,none⟩),.pointer (some ⟨h,0,none⟩),.int .i64 i] w fun e w'=>JnD kt G v vH vU hs un t h i w e w':=by
 have HV:Hid _:=H
 have HH:Hid (RHd kt G.heap.size t h w):=hh
 have ho:=H.oH
 obtain⟨aH,cH,bQ⟩:=zA ho
 subst bQ
 obtain⟨n,aD⟩:∃x,(hs.map Prod.snd).length=x:=⟨_,rfl⟩
 have bO:hs.length=n:=by rw[←aD];simp
 have a0:w.cell? ⟨v,0,none⟩=some (.slice aH n cH):=by rw[←aD];exact cell_of_row _ _ _ _ 76 _ H.row
 have aY:Hid (∀(X:World) (j:Nat) (x:ByteArray×Nat),RV kt G v (.slice aH (hs.map Prod.snd).length cH) vU hs un X→hs[j]? =some x→∃g,aH=some ⟨g,0,none⟩∧X.cell? ⟨g,j,none⟩=some (.pointer (some ⟨x.2,0,none⟩))):=fun X j x hX F=>zB1 hX.oH (by rw[List.getElem?_map,F];rfl)
 have aU:Hid (∀X:World,RV kt G v (.slice aH (hs.map Prod.snd).length cH) vU hs un X→X.cell? ⟨v,0,none⟩=some (.slice aH n cH)):=fun X hX=>by rw[←aD];exact cell_of_row _ _ _ _ 76 _ hX.row
 have aV:Hid _:=aD
 clear H hh ho
 by_cases aC:hs=[]
 ·have bP:n=0:=by rw[←bO,aC];rfl
  have hz:¬(0:Int)<(n:Int):=by omega
  have HW:Hid _:=HV.out
  have aI:Hid (RHd kt G.heap.size t h w):=HH.out
  have a8:Hid (∀x∈hs.head?,zAT x.1 t):=fun x F=>by rw[aC]at F;cases F
  have a1:Hid (Below w.heap.size w w):=Below.refl _ _
  clear aC bP
  go_enter Tryz.func21,Tryz.ntmps21
  go_wp2_with fail
  go_loopw [7] (fun kv wr=>∃k:Nat,k≤n∧kv=.int .i64 k∧(∀j x,j<k→hs[j]? =some x→(tT x.1).num≠(tT t).num)∧RV kt G v (.slice aH (hs.map Prod.snd).length cH) vU hs un wr∧RHd kt G.heap.size t h wr∧Below w.heap.size w wr) (fun kv _=>n-(intOf kv).toNat)
  case atStart=>exact⟨0,Nat.zero_le _,rfl,fun j x hj=>by omega,HW.out,aI.out,a1.out⟩
  case round=>
   obtain⟨k,hk,rfl,hE,N,a4,a2⟩:=hrel
   have U:Hid (Below w.heap.size w wr):=a2
   have HE:Hid _:=hE
   have D:Hid _:=N
   have W:Hid (RHd kt G.heap.size t h wr):=a4
   have b0:=aU.out wr N
   clear hE N a4 a2
   by_cases b5:k<n
   ·exact absurd b5 (by omega)
   ·have aE:¬(k:Int)<(n:Int):=by omega
    have aM:k=n:=by omega
    have aG:Hid (∀x∈hs,(tT x.1).num≠(tT t).num):=fun x F=>by
     obtain⟨j,hj,e⟩:=List.getElem_of_mem F
     exact HE.out j x (by omega) (by rw[List.getElem?_eq_getElem hj,e])
    obtain⟨v',w2,u,A,R,Q⟩:=RV.head D.out W.out hn
    rw[aV.out]at u
    have a6:=A.oH
    obtain⟨bK,bL,aP⟩:=zA a6
    subst aP
    obtain⟨n2,a5⟩:∃x,(List.map Prod.snd (hs++[(t,h)])).length=x:=⟨_,rfl⟩
    rw[a5]at u A Q
    have J:Hid (Kp250 w _):=(Kp250.below U.out).trans Q
    clear Q
    clear a6 a5
    have RR:Hid _:=u
    have aJ:Hid _:=A
    have q0:w2.cell? ⟨v,0,none⟩=some (.slice aH (hs.map Prod.snd).length cH):=cell_of_row _ _ _ _ 76 _ R
    have p0:=frozen_of_row w2 v 0 _ 76 R
    clear u A R aM
    go_wp2_with (at_builtin;refine zJ rfl (.tmp 57) (.tmp 59) 74 rfl _ _ _ (by simp[Act.eval]) (by simp[Act.eval]) _ RR.out ?_)
    go_ret
    exact⟨_,rfl,J.out,.inl ⟨rfl,a8.out,aG.out,_,aJ.out⟩⟩
 ·obtain⟨y,Z⟩:∃y,hs[0]? =some y:=by
   cases hs with
   |nil=>exact absurd rfl aC
   |cons y r=>exact⟨y,rfl⟩
  have b6:hs.head? =some y:=by rw[List.head?_eq_getElem?];exact Z
  have hz:(0:Int)<(n:Int):=by
   have:0<hs.length:=(List.getElem?_eq_some_iff.1 Z).1
   omega
  obtain⟨g0,rfl,c0⟩:=aY.out w 0 y HV.out Z
  have aZ:Hid _:=zPK kt G.heap.size y.1 t y.2 h w (HV.out.hd y (List.mem_of_getElem? Z)) HH.out
  have b3:Hid _:=b6
  clear Z b6
  go_enter Tryz.func21,Tryz.ntmps21
  go_wp2_with fail
  refine Calls.mono aZ.out ?_
  rintro e w1 ⟨b,rfl,hb,aA⟩
  have HW:Hid _:=HV.out.low aA
  have aI:Hid (RHd kt G.heap.size t h w1):=HH.out.below aA
  have aS:Hid _:=hb
  have a1:Hid (Below w.heap.size w w1):=aA
  clear aA hb c0 a0 aZ
  cases b with
  |false=>
   have bE:Hid (¬zAT y.1 t):=fun h=>(by have:=aS.out.2 h;cases this)
   go_wp2_with fail
   refine Calls.mono (zBg 12 i w1) ?_
   rintro e w6 ⟨r,rfl,ho,hB⟩
   obtain⟨va,vc,rfl⟩:=zA ho
   have HO:Hid _:=zP ho HW.out.bel.size
   have HB:Hid _:=HW.out.low hB
   have J:Hid (Kp250 w w6):=Kp250.below (a1.out.trans (hB.mono a1.out.size))
   clear ho hB
   go_wp2_with fail
   go_ret
   exact⟨_,rfl,J.out,.inr ⟨12,HO.out,HB.out,.inl ⟨rfl,y,b3.out,bE.out⟩⟩⟩
  |true=>
   have a8:Hid (∀x∈hs.head?,zAT x.1 t):=fun x F=>by
    rw[b3.out]at F
    cases F
    exact aS.out.1 rfl
   go_wp2_with fail
   go_loopw [7] (fun kv wr=>∃k:Nat,k≤n∧kv=.int .i64 k∧(∀j x,j<k→hs[j]? =some x→(tT x.1).num≠(tT t).num)∧RV kt G v (.slice (some ⟨g0,0,none⟩) (hs.map Prod.snd).length cH) vU hs un wr∧RHd kt G.heap.size t h wr∧Below w.heap.size w wr) (fun kv _=>n-(intOf kv).toNat)
   case atStart=>exact⟨0,Nat.zero_le _,rfl,fun j x hj=>by omega,HW.out,aI.out,a1.out⟩
   case round=>
    obtain⟨k,hk,rfl,hE,N,a4,a2⟩:=hrel
    have U:Hid (Below w.heap.size w wr):=a2
    have HE:Hid _:=hE
    have D:Hid _:=N
    have W:Hid (RHd kt G.heap.size t h wr):=a4
    have b0:=aU.out wr N
    clear hE N a4 a2
    by_cases b5:k<n
    ·have aE:(k:Int)<(n:Int):=by omega
     obtain⟨x,F⟩:∃x,hs[k]? =some x:=⟨_,List.getElem?_eq_getElem (by omega)⟩
     obtain⟨g,bM,c0⟩:=aY.out wr k x D.out F
     cases bM
     have c1:=(D.out.hd x (List.mem_of_getElem? F)).cells.1
     have c2:=W.out.cells.1
     have HX:Hid _:=F
     obtain⟨nx,aO⟩:∃y,(tT x.1).num=y:=⟨_,rfl⟩
     obtain⟨nt,aN⟩:∃y,(tT t).num=y:=⟨_,rfl⟩
     rw[aO]at c1
     rw[aN]at c2
     have aX:Hid _:=aO
     have aW:Hid _:=aN
     clear F aO aN
     by_cases aF:nx=nt
     ·have q1:((nx:Int) == (nt:Int))=true:=by simp;omega
      have q2:(nx:Int)=(nt:Int):=by omega
      go_wp2_with fail
      go_region
      obtain⟨X2,aB⟩:∃X,wr.drew=X:=⟨_,rfl⟩
      have b1:Hid (RV kt G v (.slice (some ⟨g0,0,none⟩) (hs.map Prod.snd).length cH) vU hs un X2):=by show RV _ _ _ _ _ _ _ _;rw[←aB];exact D.out.low ((Below.refl _ _).drew)
      have aT:Hid (Below w.heap.size w X2):=by show Below _ _ _;rw[←aB];exact U.out.drew
      rw[aB]
      clear aB b0 c0 c1 c2
      go_wp2_with fail
      refine Calls.mono (zBg 13 i X2) ?_
      rintro e w6 ⟨r,rfl,ho,hB⟩
      obtain⟨va,vc,rfl⟩:=zA ho
      have HO:Hid _:=zP ho b1.out.bel.size
      have HB:Hid _:=b1.out.low hB
      have J:Hid (Kp250 w w6):=Kp250.below (aT.out.trans (hB.mono aT.out.size))
      clear ho hB
      go_wp2_with fail
      go_ret
      obtain⟨y,Z⟩:=zLj HX.out
      exact⟨_,rfl,J.out,.inr ⟨13,HO.out,HB.out,.inr ⟨rfl,⟨y,Z,a8.out y Z⟩,x,List.mem_of_getElem? HX.out,by rw[aX.out,aW.out];exact aF⟩⟩⟩
     ·have q1:((nx:Int) == (nt:Int))=false:=by simp;omega
      have q2:¬(nx:Int)=(nt:Int):=by omega
      have bD:Hid (∀j y,j<k+1→hs[j]? =some y→(tT y.1).num≠(tT t).num):=fun j y hj Z=>by
       by_cases e:j=k
       ·rw[e,HX.out]at Z
        cases Z
        rw[aX.out,aW.out];exact aF
       ·exact HE.out j y (by omega) Z
      go_wp2_with fail
      go_region
      go_wp2_with fail
      go_roundw
      case rel=>exact⟨k+1,by omega,by go_num,bD.out,by first|exact D.out.low ((Below.refl _ _).drew)|exact D.out,by first|exact W.out.below ((Below.refl _ _).drew)|exact W.out,by first|exact U.out.drew|exact U.out⟩
      case measure=>simp[intOf];omega
    ·have aE:¬(k:Int)<(n:Int):=by omega
     have aM:k=n:=by omega
     have aG:Hid (∀x∈hs,(tT x.1).num≠(tT t).num):=fun x F=>by
      obtain⟨j,hj,e⟩:=List.getElem_of_mem F
      exact HE.out j x (by omega) (by rw[List.getElem?_eq_getElem hj,e])
     obtain⟨v',w2,u,A,R,Q⟩:=RV.head D.out W.out hn
     rw[aV.out]at u
     have a6:=A.oH
     obtain⟨bK,bL,aP⟩:=zA a6
     subst aP
     obtain⟨n2,a5⟩:∃x,(List.map Prod.snd (hs++[(t,h)])).length=x:=⟨_,rfl⟩
     rw[a5]at u A Q
     have J:Hid (Kp250 w _):=(Kp250.below U.out).trans Q
     clear Q
     clear a6 a5
     have RR:Hid _:=u
     have aJ:Hid _:=A
     have q0:w2.cell? ⟨v,0,none⟩=some (.slice (some ⟨g0,0,none⟩) (hs.map Prod.snd).length cH):=cell_of_row _ _ _ _ 76 _ R
     have p0:=frozen_of_row w2 v 0 _ 76 R
     clear u A R aM
     go_wp2_with (at_builtin;refine zJ rfl (.tmp 57) (.tmp 59) 74 rfl _ _ _ (by simp[Act.eval]) (by simp[Act.eval]) _ RR.out ?_)
     go_ret
     exact⟨_,rfl,J.out,.inl ⟨rfl,a8.out,aG.out,_,aJ.out⟩⟩
structure RO where
 un:List Nat
 hs:List ByteArray
 fs:Option (Nat×Nat)
 cl:Option (Nat×Nat)
def RO.new:RO:=⟨[],[],none,none⟩
def jnK:List ByteArray→ByteArray→Option Nat
 |[],_=>none
 |t0::r,t=>if (tT t0).root=(tT t).root∧(tT t0).lst=(tT t).lst∧(tT t0).lv=(tT t).lv then (if (t0::r).any (fun x=>decide ((tT x).num=(tT t).num)) then some 13 else none) else some 12
def RO.step (kt:Nat→Int)(rt:ByteArray)(i:Nat)(t:ByteArray)(s:RO):RO:=
 match sdE kt rt t with
 |some e=>{ s with un:=s.un++[i],fs:=if i=0 then some e else s.fs }
 |none=>match jnK s.hs t with
  |none=>{ s with hs:=s.hs++[t] }
  |some k=>{ s with cl:=match s.cl with|none=>some (k,i)|some c=>some c }
def RO.run (kt:Nat→Int)(rt:ByteArray):Nat→List ByteArray→RO→RO
 |_,[],s=>s
 |i,t::ts,s=>RO.run kt rt (i+1) ts (s.step kt rt i t)
theorem RO.run_snoc (kt:Nat→Int)(rt t:ByteArray):∀(l:List ByteArray) (i:Nat) (s:RO),RO.run kt rt i (l++[t]) s=(RO.run kt rt i l s).step kt rt (i+l.length) t
 |[],i,s=>rfl
 |x::l,i,s=>by
  show RO.run kt rt (i+1) (l++[t]) (s.step kt rt i x)=_
  rw[RO.run_snoc kt rt t l (i+1) (s.step kt rt i x)]
  show _=(RO.run kt rt (i+1) l (s.step kt rt i x)).step kt rt (i+(l.length+1)) t
  rw[show i+1+l.length=i+(l.length+1) by omega]
def blH (hs:List ByteArray):Nat→ByteArray:=hs.foldl (fun b t=>laid b (tT t).first (nB t) (pc (zX t) (tT t).L.C)) noT
structure OEq (r:RO)(s:OS):Prop where
 un:s.un=r.un
 hd:s.hd=r.hs.head?
 rd:∀v,s.rd v=true↔∃x∈r.hs,(tT x).num=v
 bl:s.bl=blH r.hs
 cl:r.cl=none
theorem zFR (kt:Nat→Int)(rt:ByteArray){e:Nat×Nat}:∀(l:List ByteArray) (i:Nat) (r:RO),r.cl=some e→r.hs≠[]→(RO.run kt rt i l r).cl=some e∧(RO.run kt rt i l r).hs≠[]
 |[],i,r,h,hn=>⟨h,hn⟩
 |t::l,i,r,h,hn=>by
  refine zFR kt rt l (i+1) _ ?_ ?_
  ·unfold RO.step
   split
   ·exact h
   ·split
    ·exact h
    ·show (match r.cl with|none=>some _|some c=>some c)=some e
     rw[h]
  ·unfold RO.step
   split
   ·exact hn
   ·split
    ·simp
    ·exact hn
theorem zMi {kt:Nat→Int}{rt t:ByteArray}{i:Nat}{r:RO}{s:OS}(h:OEq r s):(∃N,s.step kt rt i t=.ok N∧OEq (r.step kt rt i t) N)∨(∃k,s.step kt rt i t=.error (k,i)∧(r.step kt rt i t).cl=some (k,i)∧(r.step kt rt i t).hs≠[]):=by
 unfold OS.step RO.step
 cases hs:sdE kt rt t with
 |some e=>
  left
  rw[if_pos (by rfl)]
  exact⟨_,rfl,⟨by show s.un++[i]=r.un++[i];rw[h.un],h.hd,h.rd,h.bl,h.cl⟩⟩
 |none=>
  rw[if_neg (by simp)]
  rw[h.hd]
  cases hh:r.hs with
  |nil=>
   left
   refine⟨_,rfl,⟨h.un,?_,?_,?_,h.cl⟩⟩
   ·show some t=([]++[t]).head?
    rfl
   ·intro v
    show zAx noR (tT t).num true v=true↔∃x∈[]++[t],(tT x).num=v
    unfold zAx noR
    constructor
    ·intro e
     split at e
     ·rename_i F;exact⟨t,by simp,F.symm⟩
     ·cases e
    ·rintro ⟨x,j,e⟩
     have:x=t:=by simpa using j
     subst this
     rw[if_pos e.symm]
   ·show laid noT (tT t).first (nB t) (pc (zX t) (tT t).L.C)=blH ([]++[t])
    rfl
  |cons t0 rr=>
   have u:(s.rd (tT t).num=true)↔((t0::rr).any (fun x=>decide ((tT x).num=(tT t).num))=true):=by
    rw[h.rd,hh,List.any_eq_true]
    constructor
    ·rintro ⟨x,j,e⟩;exact⟨x,j,decide_eq_true e⟩
    ·rintro ⟨x,j,e⟩;exact⟨x,j,of_decide_eq_true e⟩
   simp only[List.head?_cons,jnK]
   by_cases G:(tT t0).root=(tT t).root∧(tT t0).lst=(tT t).lst∧(tT t0).lv=(tT t).lv
   ·rw[if_pos G]
    have A:(RS.on t0).told.root=(RS.on t).told.root∧(RS.on t0).told.lst=(RS.on t).told.lst∧(RS.on t0).told.lv=(RS.on t).told.lv:=G
    rw[if_pos A]
    by_cases J:s.rd (tT t).num=true
    ·right
     rw[if_pos (u.1 J)]
     have D:s.rd (RS.on t).told.num=true:=J
     rw[if_pos D]
     refine⟨13,rfl,?_,?_⟩
     ·show (match r.cl with|none=>some (13,i)|some c=>some c)=some (13,i)
      rw[h.cl]
     ·show t0::rr≠[]
      simp
    ·left
     rw[if_neg (fun e=>J (u.2 e))]
     have D:¬s.rd (RS.on t).told.num=true:=J
     rw[if_neg D]
     refine⟨_,rfl,⟨h.un,?_,?_,?_,h.cl⟩⟩
     ·show s.hd=((t0::rr)++[t]).head?
      rw[h.hd,hh];rfl
     ·intro v
      show zAx s.rd (tT t).num true v=true↔∃x∈(t0::rr)++[t],(tT x).num=v
      unfold zAx
      by_cases F:v=(tT t).num
      ·rw[if_pos F]
       exact⟨fun _=>⟨t,by simp,F.symm⟩,fun _=>rfl⟩
      ·rw[if_neg F,h.rd,hh]
       constructor
       ·rintro ⟨x,j,e⟩;exact⟨x,List.mem_append_left _ j,e⟩
       ·rintro ⟨x,j,e⟩
        rcases List.mem_append.1 j with j|j
        ·exact⟨x,j,e⟩
        ·rw[List.mem_singleton.1 j]at e;exact absurd e.symm F
     ·show laid s.bl (tT t).first (nB t) (pc (zX t) (tT t).L.C)=blH ((t0::rr)++[t])
      unfold blH
      rw[List.foldl_append,h.bl,hh]
      rfl
   ·right
    rw[if_neg G]
    have A:¬((RS.on t0).told.root=(RS.on t).told.root∧(RS.on t0).told.lst=(RS.on t).told.lst∧(RS.on t0).told.lv=(RS.on t).told.lv):=G
    rw[if_neg A]
    refine⟨12,rfl,?_,?_⟩
    ·show (match r.cl with|none=>some (12,i)|some c=>some c)=some (12,i)
     rw[h.cl]
    ·show t0::rr≠[]
     simp
theorem zIX (kt:Nat→Int)(rt:ByteArray):∀(l:List ByteArray) (i:Nat) (r:RO) (s:OS),OEq r s→(∃u,OS.run kt rt i l s=.ok u∧OEq (RO.run kt rt i l r) u)∨(∃e,OS.run kt rt i l s=.error e∧(RO.run kt rt i l r).cl=some e∧(RO.run kt rt i l r).hs≠[])
 |[],i,r,s,h=>.inl ⟨s,rfl,h⟩
 |t::l,i,r,s,h=>by
  rcases zMi (kt:=kt) (rt:=rt) (t:=t) (i:=i) h with ⟨J,j,D⟩|⟨k,j,D,G⟩
  ·rcases zIX kt rt l (i+1) _ J D with ⟨u,A,F⟩|⟨e,A,F⟩
   ·exact .inl ⟨u,by unfold OS.run;rw[j];exact A,F⟩
   ·exact .inr ⟨e,by unfold OS.run;rw[j];exact A,F⟩
  ·obtain⟨a,b⟩:=zFR kt rt l (i+1) _ D G
   exact .inr ⟨(k,i),by unfold OS.run;rw[j],a,b⟩
theorem OEq.new:OEq RO.new OS.new:=⟨rfl,rfl,fun v=>⟨fun e=>(by cases e),fun ⟨x,j,_⟩=>(by cases j)⟩,rfl,rfl⟩
end Go.Proofs.YtlopecgkiikdhaaGreatDoor
