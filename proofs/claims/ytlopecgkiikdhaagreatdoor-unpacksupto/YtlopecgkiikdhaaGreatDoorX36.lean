import Derived.Test.YtlopecgkiikdhaaGreatDoorX35
namespace Go.Proofs.YtlopecgkiikdhaaGreatDoor
open Go.RowKit
set_option maxRecDepth 100000
set_option maxHeartbeats 4000000
theorem zLt:(Tryz.prog.info? 101).map (fun i=>(i.zero,i.size,i.bytes))=some (some (.agg #[.slice none 0 0,.slice none 0 0,.slice none 0 0,.slice none 0 0,.int .i64 0]),5,104):=by kernel_rfl
def zLC (base B:Nat)(l0 lo:Value)(bk:Bk)(l:Value)(w w':World):Prop:=
 ∃x:Ent,BkI base B l0 lo { bk with n:=bk.n+1,I:=bk.I++[x] } w'∧(∀q,x.has q→l.ownBlock=some q∨w.heap.size≤q)∧Kz 101 l.ownBlock w w'∧Below base w w'
theorem keepI (base B:Nat)(l0 lo:Value)(A:Bk)(l:Value)(n:Nat)(xs:List Value)(w:World)(H:BkI base B l0 lo A w)(ho:w.ownsRow base 3 1 l n xs)(hx:∀q,l.ownBlock=some q→¬A.has q)(bJ:base≤w.heap.size)(bH:base≤B)(hn:n≤1000000000)(dV:A.n≤100000000000)(cP:A.I.length≤100000000000):
 Calls Tryz.prog 64 #[.pointer (some ⟨B,1,none⟩),l] w fun e w'=>e=.returned (.tuple #[])∧zLC base B l0 lo A l w w':=by
 have HH:Hid _:=H
 obtain⟨vT,vI,vO,vE,h1,h2,h3,h4,h5⟩:=H.row
 have o0:w.cell? ⟨B,1,none⟩=some (.int .i64 A.n):=cell_of_row _ _ _ _ 33 _ h1
 have f0:w.frozen? ⟨B,1,none⟩=false:=frozen_of_row w B 1 _ 33 h1
 obtain⟨U,a7⟩:∃U,w.setCell ⟨B,1,none⟩ (.int .i64 ((A.n:Int)+1))=U:=⟨_,rfl⟩
 have k1:U.heap[B]? =some (.cells #[l0,.int .i64 ((A.n:Int)+1),vT,vI,vO,vE,lo] 33 (0,0)):=by rw[←a7];exact zH _ _ _ _ _ _ _ h1
 have o1:U.cell? ⟨B,1,none⟩=some (.int .i64 ((A.n:Int)+1)):=cell_of_row _ _ _ _ 33 _ k1
 have k2:U.ownsRow base 101 5 vI A.I.length (zv A.I):=by rw[←a7];exact zF h3 (fun j cs _ J=>by rw[zC _ _ _ _ _ (zE J h1 (by decide))];exact J)
 have k3:U.ownsRow base 3 1 l n xs:=by rw[←a7];exact zF ho (fun j cs _ J=>by rw[zC _ _ _ _ _ (zE J h1 (by decide))];exact J)
 have k4:Kz 101 l.ownBlock w U:=by rw[←a7];exact Kz.set h1 (.inl rfl) _ _
 have k5:Below base w U:=by rw[←a7];exact (Below.refl _ _).setCell (p:=⟨B,1,none⟩) bH _
 obtain⟨al,cl,cT⟩:=zA ho
 have dW:xs.length=n*1:=ho.1
 have HX:Hid _:=hx
 have HO:Hid (w.ownsRow base 3 1 l n xs):=ho
 have bC:Hid _:=And.intro h2 (And.intro h3 (And.intro h4 h5))
 clear H h1 h2 h3 h4 h5 ho hx
 have K1:Hid _:=k1
 have K2:Hid _:=k2
 have K3:Hid _:=k3
 have K4:Hid (Kz 101 l.ownBlock w U):=k4
 have K5:Hid _:=k5
 clear k1 k2 k3 k4 k5
 subst cT
 obtain⟨W,hW⟩:∃W,U=W:=⟨_,rfl⟩
 subst hW
 go_enter Tryz.func64,Tryz.ntmps64
 go_wp2_with fail
 go_loopw [5] (fun iv wr=>∃i:Nat,i≤n∧iv=.int .i64 i∧wr.heap[B]? =some (.cells #[l0,.int .i64 ((A.n:Int)+1),vT,vI,vO,vE,lo] 33 (0,0))∧wr.ownsRow base 101 5 vI A.I.length (zv A.I)∧wr.ownsRow base 3 1 (.slice al n cl) n (zAW [.int .i64 (-((A.n:Int)+1))] i++xs.drop i)∧Kz 101 (Value.slice al n cl).ownBlock U wr∧Below base U wr) (fun iv _=>n-(intOf iv).toNat)
 case atStart=>exact⟨0,Nat.zero_le _,rfl,K1.out,K2.out,K3.out,Kz.refl _ _ _,Below.refl _ _⟩
 case round=>
  obtain⟨i,hi,rfl,r1,r2,r3,r4,r5⟩:=hrel
  by_cases cR:i<n
  ·have bM:(i:Int)<(n:Int):=by omega
   have aA:(0:Int)≤(i:Int):=by omega
   obtain⟨g,rfl⟩:∃g,al=some ⟨g,0,none⟩:=by
    rcases r3.2 with ⟨e,e0⟩|⟨g,dP,cur,e,_⟩
    ·omega
    ·exact⟨g,by cases e;rfl⟩
   obtain⟨p1,p2,Q,p3⟩:=zAD r3 (p:=i) (by omega) (.int .i64 (-((A.n:Int)+1)))
   rw[zF3 _ xs i n cR (by omega)]at p1
   have cQ:g≠B:=zE (zB r3 g rfl).choose_spec r1 (by decide)
   have P1:Hid _:=p1
   have R1:Hid ((wr.setCell ⟨g,i,none⟩ (.int .i64 (-((A.n:Int)+1)))).heap[B]? =some (.cells #[l0,.int .i64 ((A.n:Int)+1),vT,vI,vO,vE,lo] 33 (0,0))):=by show _=_;rw[zC _ _ _ _ _ cQ.symm];exact r1
   have R2:Hid ((wr.setCell ⟨g,i,none⟩ (.int .i64 (-((A.n:Int)+1)))).ownsRow base 101 5 vI A.I.length (zv A.I)):=zF r2 (fun j cs _ J=>by rw[zC _ _ _ _ _ (zE J (zB r3 g rfl).choose_spec (by decide))];exact J)
   have R4:Hid (Kz 101 (some g) U (wr.setCell ⟨g,i,none⟩ (.int .i64 (-((A.n:Int)+1))))):=Kz.setz r4 _ _
   have R5:Hid (Below base U (wr.setCell ⟨g,i,none⟩ (.int .i64 (-((A.n:Int)+1))))):=r5.setCell (p:=⟨g,i,none⟩) (zK r3 g rfl) _
   clear p1 r1 r2 r3 r4 r5
   go_wp2_with fail
   go_roundw
   case rel=>exact⟨i+1,by omega,by go_num,R1.out,R2.out,P1.out,R4.out,R5.out⟩
   case measure=>simp[intOf];omega
  ·obtain rfl:i=n:=by omega
   have bM:¬(i:Int)<(i:Int):=by omega
   have bW:wr.ownsRow base 3 1 (.slice al i cl) i (zAW [.int .i64 (-((A.n:Int)+1))] i):=by
    rw[List.drop_eq_nil_of_le (by omega),List.append_nil]at r3;exact r3
   have ka:=KA.start (m:=.int .i64 (-((A.n:Int)+1))) r1 r2 bW r4 r5 (Nat.le_trans bJ K5.out.size)
   obtain⟨i0,aA,z0,z1,z2⟩:=info_parts zBW
   obtain⟨j0,bL,y0,y1,y2⟩:=info_parts zLt
   obtain⟨w3,aQ⟩:∃w3,wr.alloc (.cells #[.slice al i cl,.slice none 0 0,.slice none 0 0,.slice none 0 0,.int .i64 (-((A.n:Int)+1))] 101)=w3:=⟨_,rfl⟩
   obtain⟨Q,aU⟩:∃Q,wr.heap.size=Q:=⟨_,rfl⟩
   rw[aQ,aU]at ka
   have bE:Hid _:=ka
   clear ka r1 r2 r3 bW r4 r5
   go_upto_region 7 with fail
   try rw[aQ]
   try rw[aU]
   clear aQ aU
   obtain⟨v1,u1,bP,D,⟨a1,c1,rfl⟩,N,_,_⟩:=bE.out.app (tS:=23) Tryz.underlying23 aA z0 z1 z2 rfl (by decide) rfl (by intro u hu;simp at hu;first|(subst hu;rfl)|(rcases hu with rfl|rfl<;>rfl)) (by decide) (by decide) (by decide) hn (by decide) (k':=1) (by omega) (by omega) #[.int .i64 (-((A.n:Int)+1))] rfl
   have q0:u1.cell? ⟨Q,1,none⟩=some (.slice none 0 0):=cell_of_row _ _ _ _ 101 _ D
   have q9:u1.frozen? ⟨Q,1,none⟩=false:=frozen_of_row _ _ _ _ 101 D
   have HR:Hid _:=bP
   have aI:Hid _:=N
   clear bP D N
   go_upto_region 8 with (at_builtin;refine zJ rfl (.tmp 32) (.tmp 34) 23 rfl _ _ _ (by simp[Act.eval]) (by simp[Act.eval]) _ HR.out ?_)
   clear q0 q9 HR
   obtain⟨w4,aR⟩:∃X,u1.setCell ⟨Q,1,none⟩ (.slice a1 (i+1) c1)=X:=⟨_,rfl⟩
   rw[aR]at aI
   rw[aR]
   clear aR bE
   obtain⟨v2,u2,bQ,D,⟨a2,c2,rfl⟩,_,N,_⟩:=aI.out.app (tS:=23) Tryz.underlying23 aA z0 z1 z2 rfl (by decide) rfl (by intro u hu;simp at hu;first|(subst hu;rfl)|(rcases hu with rfl|rfl<;>rfl)) (by decide) (by decide) (by decide) hn (by decide) (k':=2) (by omega) (by omega) #[.int .i64 (-((A.n:Int)+1)),.int .i64 (-((A.n:Int)+1))] rfl
   have q0:u2.cell? ⟨Q,2,none⟩=some (.slice none 0 0):=cell_of_row _ _ _ _ 101 _ D
   have q9:u2.frozen? ⟨Q,2,none⟩=false:=frozen_of_row _ _ _ _ 101 D
   have HR:Hid _:=bQ
   have aJ:Hid _:=N
   clear bQ D N
   go_upto_region 9 with (at_builtin;refine zJ rfl (.tmp 37) (.tmp 40) 23 rfl _ _ _ (by simp[Act.eval]) (by simp[Act.eval]) _ HR.out ?_)
   clear q0 q9 HR
   obtain⟨w5,aS⟩:∃X,u2.setCell ⟨Q,2,none⟩ (.slice a2 (i+2) c2)=X:=⟨_,rfl⟩
   rw[aS]at aJ
   rw[aS]
   clear aS aI
   obtain⟨v3,u3,bS,D,⟨a3,c3,rfl⟩,_,_,N⟩:=aJ.out.app (tS:=23) Tryz.underlying23 aA z0 z1 z2 rfl (by decide) rfl (by intro u hu;simp at hu;first|(subst hu;rfl)|(rcases hu with rfl|rfl<;>rfl)) (by decide) (by decide) (by decide) hn (by decide) (k':=3) (by omega) (by omega) #[.int .i64 (-((A.n:Int)+1)),.int .i64 (-((A.n:Int)+1)),.int .i64 (-((A.n:Int)+1))] rfl
   have q0:u3.cell? ⟨Q,3,none⟩=some (.slice none 0 0):=cell_of_row _ _ _ _ 101 _ D
   have q9:u3.frozen? ⟨Q,3,none⟩=false:=frozen_of_row _ _ _ _ 101 D
   have HR:Hid _:=bS
   have G:Hid _:=N
   clear bS D N
   go_upto_region 10 with (at_builtin;refine zJ rfl (.tmp 43) (.tmp 47) 23 rfl _ _ _ (by simp[Act.eval]) (by simp[Act.eval]) _ HR.out ?_)
   clear q0 q9 HR
   obtain⟨w6,aT⟩:∃X,u3.setCell ⟨Q,3,none⟩ (.slice a3 (i+3) c3)=X:=⟨_,rfl⟩
   rw[aT]at G
   rw[aT]
   clear aT aJ
   obtain⟨v8,w8,bT,⟨a8,c8,rfl⟩,aP,b1,b2,_,b3,b4,b5,b6,b7,b8,b9,aL⟩:=G.out.fin (tS5:=27) Tryz.underlying27 bL y0 y1 (by rw[y2];decide) rfl (by intro u hu;simp at hu;rcases hu with rfl|rfl|rfl|rfl|rfl<;>rfl) (by decide) (by decide) (by decide) cP bH 3
   obtain⟨av,cv,cU⟩:=zA G.out.own
   subst cU
   have e0:w6.cell? ⟨Q,0,none⟩=some (.slice al i cl):=cell_of_row _ _ _ _ 101 _ G.out.row
   have e1:w6.cell? ⟨Q,1,none⟩=some (.slice a1 (i+1) c1):=cell_of_row _ _ _ _ 101 _ G.out.row
   have e2:w6.cell? ⟨Q,2,none⟩=some (.slice a2 (i+2) c2):=cell_of_row _ _ _ _ 101 _ G.out.row
   have e3:w6.cell? ⟨Q,3,none⟩=some (.slice a3 (i+3) c3):=cell_of_row _ _ _ _ 101 _ G.out.row
   have e4:w6.cell? ⟨Q,4,none⟩=some (.int .i64 (-((A.n:Int)+1))):=cell_of_row _ _ _ _ 101 _ G.out.row
   have p0:w6.cell? ⟨B,3,none⟩=some (.slice av A.I.length cv):=cell_of_row _ _ _ _ 33 _ G.out.hall
   have p1:w8.cell? ⟨B,3,none⟩=some (.slice av A.I.length cv):=cell_of_row _ _ _ _ 33 _ aP
   have p2:w8.frozen? ⟨B,3,none⟩=false:=frozen_of_row _ _ _ _ 33 aP
   have pz:(w6.alloc (.cells #[.slice al i cl,.slice a1 (i+1) c1,.slice a2 (i+2) c2,.slice a3 (i+3) c3,.int .i64 (-((A.n:Int)+1))] 101)).cell? ⟨B,3,none⟩=some (.slice av A.I.length cv):=by rw[World.cell?_alloc_lt _ _ _ (block_lt_of_cell p0)];exact p0
   have cH:Hid _:=bT
   have bB:Hid (zLC base B l0 lo A (.slice al i cl) w (w8.setCell ⟨B,3,none⟩ (.slice a8 (A.I.length+1) c8))):=by
    have hK:=K4.out.trans b9
    have cV:w.heap.size≤(w8.setCell ⟨B,3,none⟩ (.slice a8 (A.I.length+1) c8)).heap.size:=(K5.out.trans aL).size
    have aB:∀(j:Nat) (cs:Array Value) (t:TypeId),w.heap[j]? =some (.cells cs t (0,0))→t≠33→t≠101→t≠3→(w8.setCell ⟨B,3,none⟩ (.slice a8 (A.I.length+1) c8)).heap[j]? =some (.cells cs t (0,0)):=fun j cs t J aO h5 hE=>hK j cs t J aO h5 (fun e=>by
     obtain⟨cur,bK⟩:=zB HO.out j e
     exact zE J bK hE rfl)
    have a4:∀(q:Nat) (cur:Array Value) (ty:TypeId),A.has q→w.heap[q]? =some (.cells cur ty (0,0))→ty≠33→ty≠101→(w8.setCell ⟨B,3,none⟩ (.slice a8 (A.I.length+1) c8)).heap[q]? =w.heap[q]? :=fun q cur ty F hc aO h5=>by
     rw[hK q cur ty hc aO h5 (fun e=>HX.out q e F),hc]
    have aF:∀q,(base≤q∧q<w.heap.size)→base≤q∧q<(w8.setCell ⟨B,3,none⟩ (.slice a8 (A.I.length+1) c8)).heap.size:=fun q F=>⟨F.1,Nat.lt_of_lt_of_le F.2 cV⟩
    obtain⟨g2,g3,g4,g5⟩:=bC.out
    have cO:∀q,(⟨.slice al i cl,.slice a1 (i+1) c1,.slice a2 (i+2) c2,.slice a3 (i+3) c3,.int .i64 (-((A.n:Int)+1))⟩:Ent).has q→(Value.slice al i cl).ownBlock=some q∨w.heap.size≤q:=fun q F=>by
     rcases b7 q F with h|h
     ·exact .inl h
     ·exact .inr (Nat.le_trans K5.out.size h)
    refine⟨⟨.slice al i cl,.slice a1 (i+1) c1,.slice a2 (i+2) c2,.slice a3 (i+3) c3,.int .i64 (-((A.n:Int)+1))⟩,⟨⟨vT,(.slice a8 (A.I.length+1) c8),vO,vE,?_,zF g2 (fun j cs _ J=>aB j cs 99 J (by decide) (by decide) (by decide)),by rw[List.length_append];exact b2,zF g4 (fun j cs _ J=>aB j cs 104 J (by decide) (by decide) (by decide)),zF g5 (fun j cs _ J=>aB j cs 107 J (by decide) (by decide) (by decide))⟩,fun e he=> ?_,fun e he=> ?_,fun e he=> ?_,fun e he=> ?_⟩,cO,hK,K5.out.trans aL⟩
    ·rw[show (((A.n+1:Nat)):Int)=(A.n:Int)+1 by omega]
     exact b1
    ·obtain⟨a9,R,c9⟩:=HH.out.T e he
     exact⟨a9.kept (fun q cur F hc=>a4 q cur 9 (.inl ⟨e,he,F⟩) hc (by decide) (by decide)),R,fun q F=>aF q (c9 q F)⟩
    ·rcases List.mem_append.1 he with aE|aE
     ·obtain⟨a9,R,c9⟩:=HH.out.I e aE
      exact⟨a9.kept (fun q cur F hc=>a4 q cur 3 (.inr (.inl ⟨e,aE,F⟩)) hc (by decide) (by decide)),R,fun q F=>aF q (c9 q F)⟩
     ·rw[List.mem_singleton.1 aE]
      exact⟨⟨zBY b6 rfl (by omega),b3,b4,b5⟩,⟨_,rfl⟩,fun q F=>⟨(by rcases b7 q F with h|h;exact zK b6 q h;exact Nat.le_trans (Nat.le_trans bJ K5.out.size) h),b8 q F⟩⟩
    ·obtain⟨a9,R,c9⟩:=HH.out.O e he
     exact⟨a9.kept (fun q cur F hc=>a4 q cur 149 (.inr (.inr (.inl ⟨e,he,F⟩))) hc (by decide) (by decide)),R,fun q F=>aF q (c9 q F)⟩
    ·obtain⟨a9,R,c9⟩:=HH.out.E e he
     exact⟨a9.kept (fun q cur F hc=>a4 q cur 131 (.inr (.inr (.inr ⟨e,he,F⟩))) hc (by decide) (by decide)),R,fun q F=>aF q (c9 q F)⟩
   clear aP b1 b2 b3 b4 b5 b6 b7 b8 b9 aL bT bL y0 y1 y2 aA z0 z1 z2
   go_region_law (refine zAF rfl (.tmp 54) (.tmp 56) 27 rfl _ _ _ (by simp[Act.eval]) (by simp[Act.eval]) _ cH.out ?_)
   all_goals go_end0
   all_goals exact⟨rfl,bB.out⟩
def EntB (g:Nat)(w:World)(j:Nat):Prop:=∃cs v,w.heap[g]? =some (.cells cs 157 (0,0))∧cs[6]? =some v∧v.ownBlock=some j
section
variable {kt:Nat→Int} {B k g p q f:Nat} {T:TT} {un:Value} {ul:List Nat} {rd:Nat→Bool} {bl:Nat→ByteArray} {dn:Nat→Bool} {zs:Nat→Nat} {bd:Nat→Value} {w w':World}
theorem VS.ent (h:VS kt B k g p q f T un ul rd bl dn zs bd w){j:Nat}(R:EntB g w j):j<w.heap.size∧∃cur,w.heap[j]? =some (.cells cur 131 (0,0)):=by
 obtain⟨u,F,num,first,vB,Q,J⟩:=h.hd
 obtain⟨U,v,A,D,G⟩:=R
 rw[Q]at A
 simp only[Option.some.injEq,Obj.cells.injEq]at A
 rw[←A.1]at D
 have N:v=.slice u T.L.es.length F:=by
  have:(zBE T.root T.lst T.L.K T.L.M T.L.C T.L.V (.slice u T.L.es.length F) T.lv num first vB)[6]? =some (.slice u T.L.es.length F):=rfl
  rw[this]at D
  exact (Option.some.inj D).symm
 subst N
 exact⟨zG J j G,zB J j G⟩
theorem VS.out3 (h:VS kt B k g p q f T un ul rd bl dn zs bd w){j:Nat}(u:zH8 un bd dn T.L.ns j):∃cur,w.heap[j]? =some (.cells cur 3 (0,0)):=by
 rcases u with e|⟨s,hs,hd,e⟩
 ·exact zB h.unO j e
 ·exact zB (h.fn s hs hd).2 j e
theorem VS.kz {t5:Nat}{z:Option Nat}(h:VS kt B k g p q f T un ul rd bl dn zs bd w)(hk:Kz t5 z w w')(h5:t5=99∨t5=101∨t5=104∨t5=107∨t5=53)(J:∀j,z=some j→(∃A t,w.heap[j]? =some (.cells A t (0,0))∧(t=3∨t=9∨t=131∨t=149))∧j≠q∧¬zH8 un bd dn T.L.ns j∧¬EntB g w j):VS kt B k g p q f T un ul rd bl dn zs bd w':=by
 have u:∀(j:Nat) (A:Array Value) (t:TypeId),w.heap[j]? =some (.cells A t (0,0))→t=114∨t=157∨t=131∨t=3∨t=4∨t=9∨t=212∨t=216→z≠some j→w'.heap[j]? =some (.cells A t (0,0)):=fun j A t F N U=>by
  refine hk j A t F ?_ ?_ U
  ·rcases N with e|e|e|e|e|e|e|e<;>rw[e]<;>decide
  ·rcases N with e|e|e|e|e|e|e|e<;>rcases h5 with e'|e'|e'|e'|e'<;>rw[e,e']<;>decide
 have D:∀(j:Nat) (A:Array Value) (t:TypeId),w.heap[j]? =some (.cells A t (0,0))→t=114∨t=157∨t=4∨t=212∨t=216→z≠some j:=fun j A t F N e=>by
  obtain⟨⟨a1,t2,Q,W⟩,_⟩:=J j e
  rw[F]at Q
  simp only[Option.some.injEq,Obj.cells.injEq]at Q
  have:=Q.2.1
  rcases N with e|e|e|e|e<;>rcases W with e'|e'|e'|e'<;>rw[e,e']at this<;>exact absurd this (by decide)
 obtain⟨X,kE,num,first,vB,g1,g2⟩:=h.hd
 have R:=u _ _ _ g1 (by simp) (D _ _ _ g1 (by simp))
 refine⟨u _ _ _ h.row (by simp) (D _ _ _ h.row (by simp)),⟨X,kE,num,first,vB,R,zF g2 (fun j A F G=>u j A 131 G (by simp) (fun e=>(J j e).2.2.2 ⟨_,_,g1,rfl,F⟩))⟩,zF h.unO (fun j A F G=>u j A 3 G (by simp) (fun e=>(J j e).2.2.1 (.inl F))),u _ _ _ h.rdR (by simp) (D _ _ _ h.rdR (by simp)),u _ _ _ h.blR (by simp) (fun e=>(J q e).2.1 rfl),u _ _ _ h.fiR (by simp) (D _ _ _ h.fiR (by simp)),fun s hs hd=>⟨u _ _ _ (h.fn s hs hd).1 (by simp) (D _ _ _ (h.fn s hs hd).1 (by simp)),zF (h.fn s hs hd).2 (fun j A F G=>u j A 3 G (by simp) (fun e=>(J j e).2.2.1 (.inr ⟨s,hs,hd,F⟩)))⟩⟩
theorem VS.fr {N G U:Nat}{c1 c2 c3:Array Value}(h:VS kt B k g p q f T un ul rd bl dn zs bd w)(X:Fr (fun j=>j=N∨j=G∨j=U) w w')(Q:w.heap[N]? =some (.cells c1 9 (0,0)))(R:w.heap[G]? =some (.cells c2 212 (0,0)))(J:w.heap[U]? =some (.cells c3 70 (0,0)))(hq:q≠N)(hf:f≠G):VS kt B k g p q f T un ul rd bl dn zs bd w':=by
 have u:∀(j:Nat) (A:Array Value) (t:TypeId),w.heap[j]? =some (.cells A t (0,0))→t=114∨t=157∨t=131∨t=3∨t=4∨t=216∨j=q∨j=f→w'.heap[j]? =some (.cells A t (0,0)):=fun j A t F ht=>by
  rw[X.old j (Array.getElem?_eq_some_iff.1 F).1 (fun e=> ?_)]
  ·exact F
  ·rcases ht with a|a|a|a|a|a|a|a
   all_goals first
    |(subst a;rcases e with e|e|e
      ·exact zE F Q (by decide) e
      ·exact zE F R (by decide) e
      ·exact zE F J (by decide) e)
    |skip
   ·subst a
    rcases e with e|e|e
    ·exact hq e
    ·exact zE h.blR R (by decide) e
    ·exact zE h.blR J (by decide) e
   ·subst a
    rcases e with e|e|e
    ·exact zE h.fiR Q (by decide) e
    ·exact hf e
    ·exact zE h.fiR J (by decide) e
 obtain⟨W,kE,num,first,vB,g1,g2⟩:=h.hd
 exact⟨u _ _ _ h.row (by simp),⟨W,kE,num,first,vB,u _ _ _ g1 (by simp),zF g2 (fun j A _ D=>u j A 131 D (by simp))⟩,zF h.unO (fun j A _ D=>u j A 3 D (by simp)),u _ _ _ h.rdR (by simp),u _ _ _ h.blR (by simp),u _ _ _ h.fiR (by simp),fun s hs hd=>⟨u _ _ _ (h.fn s hs hd).1 (by simp),zF (h.fn s hs hd).2 (fun j A _ D=>u j A 3 D (by simp))⟩⟩
end
structure Dr where
 B:Nat
 v:Nat
 k:Nat
 g:Nat
 p:Nat
 q:Nat
 f:Nat
 un:Value
 ul:List Nat
 rd:Nat→Bool
 C:Nat
 y:Nat
 vH:Value
 vU:Value
 hp:List (ByteArray×Nat)
 t0:ByteArray
 Y:World
def Dr.bl (d:Dr):Nat→ByteArray:=blH (d.hp.map Prod.fst)
structure Dr.fit (kt:Nat→Int)(d:Dr):Prop where
 set:RSet kt d.t0 (d.hp.map Prod.fst)
 rd:∀v,d.rd v=true↔∃x∈d.hp.map Prod.fst,(tT x).num=v
 ul:d.ul.length≤100000000
 hl:d.hp.length≤100000000
 rb:RB kt d.C d.y d.vH d.vU d.hp d.ul d.Y
theorem Dr.fit.told {kt:Nat→Int}{d:Dr}(h:d.fit kt):zt (tT d.t0)∧((tT d.t0).L.es.length≤16∧zM (tT d.t0).L.es≤4096):=⟨zAz (zY (h.set.rd d.t0 h.set.mem0)).2.1,zAQ (RS.on d.t0)⟩
def yT (t:Nat):Prop:=t=76∨t=77∨t=3∨t=84∨t=131∨t=9
theorem RB.kept2 {kt:Nat→Int}{B v:Nat}{vH vU:Value}{hs:List (ByteArray×Nat)}{un:List Nat}{w w':World}(h:RB kt B v vH vU hs un w)(hk:∀(j:Nat) (u:Array Value) (t:TypeId),B≤j→w.heap[j]? =some (.cells u t (0,0))→yT t→w'.heap[j]? =some (.cells u t (0,0))):RB kt B v vH vU hs un w' where
 row:=hk _ _ _ h.lv h.row (.inl rfl)
 oH:=zF h.oH (fun j u D A=>hk j u _ (zK h.oH j D) A (by simp[yT]))
 oU:=zF h.oU (fun j u D A=>hk j u _ (zK h.oU j D) A (by simp[yT]))
 hd:=fun x N=>by
  obtain⟨G,F,vE,vL,vB,J,oE,oL,oB⟩:=h.hd x N
  exact⟨G,F,vE,vL,vB,hk _ _ _ F J (by simp[yT]),zF oE (fun j u D A=>hk j u _ (zK oE j D) A (by simp[yT])),zF oL (fun j u D A=>hk j u _ (zK oL j D) A (by simp[yT])),zF oB (fun j u D A=>hk j u _ (zK oB j D) A (by simp[yT]))⟩
 lv:=h.lv
structure Dr.at (kt:Nat→Int)(base:Nat)(Z:Nat→Prop)(d:Dr)(w:World):Prop where
 vl:VL d.v d.k 0 w
 vs:∃dn zs bd,VS kt d.B d.k d.g d.p d.q d.f (tT d.t0) d.un d.ul d.rd d.bl dn zs bd w∧∀j,Z j→¬zH8 d.un bd dn (tT d.t0).L.ns j
 zn:∀j,Z j→j≠d.q∧¬EntB d.g w j∧(j<d.C∨d.Y.heap.size≤j)
 lo:base≤d.B∧base≤d.v∧base≤d.q∧base≤d.f∧base≤d.C
 bw:d.B≤w.heap.size
 up:d.v<d.C∧d.q<d.C∧d.f<d.C
 yw:∀(j:Nat) (cs:Array Value) (t:TypeId),d.C≤j→d.Y.heap[j]? =some (.cells cs t (0,0))→yT t→w.heap[j]? =some (.cells cs t (0,0))
 yl:d.Y.heap.size≤w.heap.size
section
variable {kt:Nat→Int} {base:Nat} {Z:Nat→Prop} {d:Dr} {w w':World}
theorem Dr.at.rb (h:d.at kt base Z w)(hf:d.fit kt):RB kt d.C d.y d.vH d.vU d.hp d.ul w:=hf.rb.kept2 h.yw
theorem Dr.at.vk (h:d.at kt base Z w):VK kt d.B d.v d.k d.g d.p d.q d.f (tT d.t0) d.un d.ul d.rd d.bl w:=by
 obtain⟨dn,zs,bd,j,_⟩:=h.vs
 exact⟨h.vl,dn,zs,bd,j⟩
theorem Dr.at.mono {A:Nat→Prop}(h:d.at kt base Z w)(D:∀j,A j→Z j):d.at kt base A w:=by
 obtain⟨dn,zs,bd,F,G⟩:=h.vs
 exact⟨h.vl,⟨dn,zs,bd,F,fun j u=>G j (D j u)⟩,fun j u=>h.zn j (D j u),h.lo,h.bw,h.up,h.yw,h.yl⟩
theorem EntB.back {g:Nat}{j:Nat}(h:EntB g w' j)(e:w'.heap[g]? =w.heap[g]?):EntB g w j:=by
 obtain⟨u,v,A,D,F⟩:=h
 exact⟨u,v,by rw[←e];exact A,D,F⟩
theorem Dr.at.low (h:d.at kt base Z w)(hb:Below w.heap.size w w'):d.at kt base Z w':=by
 obtain⟨dn,zs,bd,D,Q⟩:=h.vs
 obtain⟨R,U,num,first,vB,g1,g2⟩:=D.hd
 refine⟨(hb.block _ (Array.getElem?_eq_some_iff.1 h.vl).1).trans h.vl,⟨dn,zs,bd,D.below hb,Q⟩,fun j u=>⟨(h.zn j u).1,fun e=>(h.zn j u).2.1 (e.back (hb.block _ (Array.getElem?_eq_some_iff.1 g1).1)),(h.zn j u).2.2⟩,h.lo,Nat.le_trans h.bw hb.size,h.up,fun j F t G J N=> ?_,Nat.le_trans h.yl hb.size⟩
 have A:=h.yw j F t G J N
 rw[hb.block j (Array.getElem?_eq_some_iff.1 A).1]
 exact A
theorem Dr.at.kz {t5:Nat}{z:Option Nat}(h:d.at kt base Z w)(hk:Kz t5 z w w')(N:t5=99∨t5=101∨t5=104∨t5=107∨t5=53)(F:∀j,z=some j→Z j∧∃A t,w.heap[j]? =some (.cells A t (0,0))∧(t=3∨t=9∨t=131∨t=149))(G:w.heap.size≤w'.heap.size):d.at kt base Z w':=by
 obtain⟨dn,zs,bd,U,W⟩:=h.vs
 obtain⟨aE,kE,num,first,vB,g1,g2⟩:=U.hd
 have J:∀(j:Nat) (A:Array Value) (t:TypeId),w.heap[j]? =some (.cells A t (0,0))→t=157∨t=70→z≠some j:=fun j A t u ht e=>by
  obtain⟨_,X,t2,D,R⟩:=F j e
  rw[u]at D
  simp only[Option.some.injEq,Obj.cells.injEq]at D
  have:=D.2.1
  rcases ht with e|e<;>rcases R with e'|e'|e'|e'<;>rw[e,e']at this<;>exact absurd this (by decide)
 have hg:w'.heap[d.g]? =w.heap[d.g]? :=by
  rw[hk _ _ _ g1 (by decide) (by rcases N with e|e|e|e|e<;>rw[e]<;>decide) (J _ _ _ g1 (.inl rfl)),g1]
 refine⟨hk _ _ _ h.vl (by decide) (by rcases N with e|e|e|e|e<;>rw[e]<;>decide) (J _ _ _ h.vl (.inr rfl)),⟨dn,zs,bd,U.kz hk N (fun j u=>⟨(F j u).2,(h.zn j (F j u).1).1,W j (F j u).1,(h.zn j (F j u).1).2.1⟩),W⟩,fun j u=>⟨(h.zn j u).1,fun e=>(h.zn j u).2.1 (e.back hg),(h.zn j u).2.2⟩,h.lo,Nat.le_trans h.bw G,h.up,fun j A t h1 D Q=> ?_,Nat.le_trans h.yl G⟩
 have e4:=h.yw j A t h1 D Q
 have a6:=(Array.getElem?_eq_some_iff.1 D).1
 refine hk j A t e4 ?_ ?_ (fun e=> ?_)
 ·rcases Q with e|e|e|e|e|e<;>rw[e]<;>decide
 ·rcases Q with e|e|e|e|e|e<;>rcases N with e'|e'|e'|e'|e'<;>rw[e,e']<;>decide
 ·rcases (h.zn j (F j e).1).2.2 with h6|h6<;>omega
theorem Dr.at.other {d':Dr}(h:d.at kt base (fun _=>False) w)(G:d'.at kt base (fun _=>False) w)(A:Fr (fun j=>j=d'.q∨j=d'.f∨j=d'.v) w w')(hq:d.q≠d'.q)(hf:d.f≠d'.f)(hv:d.v≠d'.v)(hY:∀j,d.C≤j→j<d.Y.heap.size→j≠d'.q)(N:∀j,Z j→w.heap.size≤j):d.at kt base Z w':=by
 obtain⟨dn,zs,bd,D,_⟩:=h.vs
 obtain⟨a2,a8,X,u,_⟩:=G.vs
 obtain⟨aE,kE,num,first,vB,g1,g2⟩:=D.hd
 have hg:w'.heap[d.g]? =w.heap[d.g]? :=A.old _ (Array.getElem?_eq_some_iff.1 g1).1 (fun e=>by
  rcases e with e|e|e
  ·exact zE g1 u.blR (by decide) e
  ·exact zE g1 u.fiR (by decide) e
  ·exact zE g1 G.vl (by decide) e)
 have U:w'.heap[d.v]? =w.heap[d.v]? :=A.old _ (Array.getElem?_eq_some_iff.1 h.vl).1 (fun e=>by
  rcases e with e|e|e
  ·exact zE h.vl u.blR (by decide) e
  ·exact zE h.vl u.fiR (by decide) e
  ·exact hv e)
 refine⟨U.trans h.vl,⟨dn,zs,bd,D.fr A u.blR u.fiR G.vl hq hf,fun j F e=> ?_⟩,fun j F=>⟨fun e=> ?_,fun e=> ?_,.inr (Nat.le_trans h.yl (N j F))⟩,h.lo,Nat.le_trans h.bw A.size,h.up,fun j cs t Q W R=> ?_,Nat.le_trans h.yl A.size⟩
 ·have:=D.outs j e;have:=N j F;omega
 ·have Q:=D.blR.lt;have:=N j F;omega
 ·have:=(D.ent (e.back hg)).1;have:=N j F;omega
 ·have J:=h.yw j cs t Q W R
  rw[A.old j (Array.getElem?_eq_some_iff.1 J).1 (fun e=>by
   rcases e with e|e|e
   ·exact hY j Q (Array.getElem?_eq_some_iff.1 W).1 e
   ·exact zE J u.fiR (by rcases R with e|e|e|e|e|e<;>rw[e]<;>decide) e
   ·exact zE J G.vl (by rcases R with e|e|e|e|e|e<;>rw[e]<;>decide) e)]
  exact J
theorem Dr.at.self (h:d.at kt base (fun _=>False) w)(A:Fr (fun j=>j=d.q∨j=d.f∨j=d.v) w w')(G:VL d.v d.k 0 w')(J:∃dn zs bd,VS kt d.B d.k d.g d.p d.q d.f (tT d.t0) d.un d.ul d.rd d.bl dn zs bd w'∧∀j,Z j→¬zH8 d.un bd dn (tT d.t0).L.ns j)(D:∀j,Z j→w.heap.size≤j):d.at kt base Z w':=by
 obtain⟨dn,zs,bd,u,_⟩:=h.vs
 obtain⟨aE,kE,num,first,vB,g1,g2⟩:=u.hd
 have X:w'.heap[d.g]? =w.heap[d.g]? :=A.old _ (Array.getElem?_eq_some_iff.1 g1).1 (fun e=>by
  rcases e with e|e|e
  ·exact zE g1 u.blR (by decide) e
  ·exact zE g1 u.fiR (by decide) e
  ·exact zE g1 h.vl (by decide) e)
 refine⟨G,J,fun j F=>⟨fun e=> ?_,fun e=> ?_,.inr (Nat.le_trans h.yl (D j F))⟩,h.lo,Nat.le_trans h.bw A.size,h.up,fun j R t N U W=> ?_,Nat.le_trans h.yl A.size⟩
 ·have N:=u.blR.lt;have:=D j F;omega
 ·have:=(u.ent (e.back X)).1;have:=D j F;omega
 ·have Q:=h.yw j R t N U W
  rw[A.old j (Array.getElem?_eq_some_iff.1 Q).1 (fun e=>by
   obtain⟨a1,a2,a3⟩:=h.up
   rcases e with e|e|e<;>omega)]
  exact Q
end
theorem zLv:(Tryz.prog.info? 107).map (fun i=>(i.zero,i.size,i.bytes))=some (some (.agg #[.slice none 0 0,.slice none 0 0,.slice none 0 0,.slice none 0 0,.string ⟨#[]⟩]),5,112):=by kernel_rfl
def zJA (base B:Nat)(l0 lo:Value)(bk:Bk)(l:Value)(w w':World):Prop:=
 ∃x:Ent,BkI base B l0 lo { bk with n:=bk.n+1,E:=bk.E++[x] } w'∧(∀q,x.has q→l.ownBlock=some q∨w.heap.size≤q)∧Kz 107 l.ownBlock w w'∧Below base w w'
theorem keepE (base B:Nat)(l0 lo:Value)(D:Bk)(l:Value)(n:Nat)(xs:List Value)(w:World)(H:BkI base B l0 lo D w)(ho:w.ownsRow base 131 2 l n xs)(hx:∀q,l.ownBlock=some q→¬D.has q)(aX:base≤w.heap.size)(bV:base≤B)(hn:n≤1000000000)(fF:D.n≤100000000000)(d7:D.E.length≤100000000000):
 Calls Tryz.prog 33 #[.pointer (some ⟨B,1,none⟩),l] w fun e w'=>e=.returned (.tuple #[])∧zJA base B l0 lo D l w w':=by
 have HH:Hid _:=H
 obtain⟨vT,vI,vO,vE,h1,h2,h3,h4,h5⟩:=H.row
 have o0:w.cell? ⟨B,1,none⟩=some (.int .i64 D.n):=cell_of_row _ _ _ _ 33 _ h1
 have f0:w.frozen? ⟨B,1,none⟩=false:=frozen_of_row w B 1 _ 33 h1
 obtain⟨W1,aB⟩:∃W1,w.setCell ⟨B,1,none⟩ (.int .i64 ((D.n:Int)+1))=W1:=⟨_,rfl⟩
 have k1:W1.heap[B]? =some (.cells #[l0,.int .i64 ((D.n:Int)+1),vT,vI,vO,vE,lo] 33 (0,0)):=by rw[←aB];exact zH _ _ _ _ _ _ _ h1
 have o1:W1.cell? ⟨B,1,none⟩=some (.int .i64 ((D.n:Int)+1)):=cell_of_row _ _ _ _ 33 _ k1
 have k2:W1.ownsRow base 107 5 vE D.E.length (zv D.E):=by rw[←aB];exact zF h5 (fun j cs _ J=>by rw[zC _ _ _ _ _ (zE J h1 (by decide))];exact J)
 have k3:W1.ownsRow base 131 2 l n xs:=by rw[←aB];exact zF ho (fun j cs _ J=>by rw[zC _ _ _ _ _ (zE J h1 (by decide))];exact J)
 have k4:Kz 107 l.ownBlock w W1:=by rw[←aB];exact Kz.set h1 (.inl rfl) _ _
 have k5:Below base w W1:=by rw[←aB];exact (Below.refl _ _).setCell (p:=⟨B,1,none⟩) bV _
 obtain⟨al,cl,dA⟩:=zA ho
 have fG:xs.length=n*2:=ho.1
 have HX:Hid _:=hx
 have HO:Hid (w.ownsRow base 131 2 l n xs):=ho
 have bP:Hid _:=And.intro h2 (And.intro h3 (And.intro h4 h5))
 clear H h1 h2 h3 h4 h5 ho hx
 have K1:Hid _:=k1
 have K2:Hid _:=k2
 have K3:Hid _:=k3
 have K4:Hid (Kz 107 l.ownBlock w W1):=k4
 have K5:Hid _:=k5
 clear k1 k2 k3 k4 k5
 subst dA
 go_enter Tryz.func33,Tryz.ntmps33
 go_wp2_with fail
 rw[show ((D.n:Int)+1)=((D.n+1:Nat):Int) by omega]
 refine (zDM (D.n+1) W1 (by omega)).mono ?_
 rintro e W2 ⟨m,rfl,aK⟩
 obtain⟨W,hW⟩:∃W,W2.alloc (.cells #[.string m,.int .i64 0] 131)=W:=⟨_,rfl⟩
 obtain⟨ob,aM⟩:∃ob,W2.heap.size=ob:=⟨_,rfl⟩
 have aA:Below W1.heap.size W1 W:=by rw[←hW];exact aK.alloc aK.size _
 have q1:W.heap[ob]? =some (.cells #[.string m,.int .i64 0] 131 (0,0)):=by rw[←hW,←aM];exact heap_alloc_new _ _
 have q2:W1.heap.size≤ob:=by rw[←aM];exact aK.size
 have k1:W.heap[B]? =some (.cells #[l0,.int .i64 ((D.n:Int)+1),vT,vI,vO,vE,lo] 33 (0,0)):=by rw[aA.block B (Array.getElem?_eq_some_iff.1 K1.out).1];exact K1.out
 have k2:=zD K2.out (fun q F=>aA.block q (zG K2.out q F))
 have k3:=zD K3.out (fun q F=>aA.block q (zG K3.out q F))
 have k4:=K4.out.trans (Kz.below aA)
 have k5:=K5.out.trans (aA.mono (Nat.le_trans aX K5.out.size))
 have q3:(Value.slice al n cl).ownBlock≠some ob:=fun e=>by have:=zG K3.out ob e;omega
 clear K1 K2 K3 K4 K5
 have K1:Hid _:=k1
 have K2:Hid _:=k2
 have K3:Hid _:=k3
 have K4:Hid (Kz 107 (Value.slice al n cl).ownBlock w W):=k4
 have K5:Hid _:=k5
 clear k1 k2 k3 k4 k5 aK aA o0 o1 f0 aB
 have Q1:Hid _:=q1
 have Q3:Hid _:=q3
 have HW:Hid _:=hW
 have bO:Hid _:=aM
 clear hW aM q1 q3 q2
 go_upto_region 3 with fail
 rw[HW.out,bO.out]
 clear HW bO
 go_wp2_with fail
 go_loopw [6] (fun iv wr=>∃i:Nat,i≤n∧iv=.int .i64 i∧wr.heap[B]? =some (.cells #[l0,.int .i64 ((D.n:Int)+1),vT,vI,vO,vE,lo] 33 (0,0))∧wr.ownsRow base 107 5 vE D.E.length (zv D.E)∧wr.ownsRow base 131 2 (.slice al n cl) n (zAW [.string m,.int .i64 0] i++xs.drop (i*2))∧Kz 107 (Value.slice al n cl).ownBlock W wr∧Below base W wr) (fun iv _=>n-(intOf iv).toNat)
 case atStart=>exact⟨0,Nat.zero_le _,rfl,K1.out,K2.out,K3.out,Kz.refl _ _ _,Below.refl _ _⟩
 case round=>
  obtain⟨i,hi,rfl,r1,r2,r3,r4,r5⟩:=hrel
  have R:=r4 _ _ _ Q1.out (by decide) (by decide) Q3.out
  have s1:wr.cell? ⟨ob,0,none⟩=some (.string m):=cell_of_row _ _ _ _ 131 _ R
  have s2:wr.cell? ⟨ob,1,none⟩=some (.int .i64 0):=cell_of_row _ _ _ _ 131 _ R
  by_cases d8:i<n
  ·have bZ:(i:Int)<(n:Int):=by omega
   have aD:(0:Int)≤(i:Int):=by omega
   obtain⟨g,rfl⟩:∃g,al=some ⟨g,0,none⟩:=by
    rcases r3.2 with ⟨e,e0⟩|⟨g,f8,cur,e,_⟩
    ·omega
    ·exact⟨g,by cases e;rfl⟩
   obtain⟨p1,p2,Q,p3⟩:=zAD r3 (p:=i*2) (by omega) (.string m)
   obtain⟨p4,p5,x1,p6⟩:=zAD p1 (p:=i*2+1) (by omega) (.int .i64 0)
   rw[zF4 _ _ xs i n d8 (by omega)]at p4
   have p7:∃y,wr.cell? ⟨g,i*2+1,none⟩=some y:=(zAD r3 (p:=i*2+1) (by omega) (.string m)).2.2
   obtain⟨x2,p7⟩:=p7
   have p8:wr.frozen? ⟨g,i*2+1,none⟩=false:=(zAD r3 (p:=i*2+1) (by omega) (.string m)).2.1
   have bX:g≠B:=zE (zB r3 g rfl).choose_spec r1 (by decide)
   have P4:Hid _:=p4
   have R1:Hid (((wr.setCell ⟨g,i*2,none⟩ (.string m)).setCell ⟨g,i*2+1,none⟩ (.int .i64 0)).heap[B]? =some (.cells #[l0,.int .i64 ((D.n:Int)+1),vT,vI,vO,vE,lo] 33 (0,0))):=by show _=_;rw[zC _ _ _ _ _ bX.symm,zC _ _ _ _ _ bX.symm];exact r1
   have R2:Hid (((wr.setCell ⟨g,i*2,none⟩ (.string m)).setCell ⟨g,i*2+1,none⟩ (.int .i64 0)).ownsRow base 107 5 vE D.E.length (zv D.E)):=zF r2 (fun j cs _ J=>by rw[zC _ _ _ _ _ (zE J (zB r3 g rfl).choose_spec (by decide)),zC _ _ _ _ _ (zE J (zB r3 g rfl).choose_spec (by decide))];exact J)
   have R4:Hid (Kz 107 (some g) W ((wr.setCell ⟨g,i*2,none⟩ (.string m)).setCell ⟨g,i*2+1,none⟩ (.int .i64 0))):=Kz.setz (Kz.setz r4 _ _) _ _
   have R5:Hid (Below base W ((wr.setCell ⟨g,i*2,none⟩ (.string m)).setCell ⟨g,i*2+1,none⟩ (.int .i64 0))):=(r5.setCell (p:=⟨g,i*2,none⟩) (zK r3 g rfl) _).setCell (p:=⟨g,i*2+1,none⟩) (zK r3 g rfl) _
   clear p1 p4 r1 r2 r3 r4 r5 R
   go_wp2_with fail
   go_roundw
   case rel=>exact⟨i+1,by omega,by go_num,R1.out,R2.out,P4.out,R4.out,R5.out⟩
   case measure=>simp[intOf];omega
  ·obtain rfl:i=n:=by omega
   have bZ:¬(i:Int)<(i:Int):=by omega
   have cL:wr.ownsRow base 131 2 (.slice al i cl) i (zAW [.string m,.int .i64 0] i):=by
    rw[List.drop_eq_nil_of_le (by omega),List.append_nil]at r3;exact r3
   have ka:=KA.start (m:=.string m) r1 r2 cL r4 r5 (Nat.le_trans aX K5.out.size)
   obtain⟨i0,aD,z0,z1,z2⟩:=info_parts zHe
   obtain⟨j0,bY,y0,y1,y2⟩:=info_parts zLv
   obtain⟨w3,aY⟩:∃w3,wr.alloc (.cells #[.slice al i cl,.slice none 0 0,.slice none 0 0,.slice none 0 0,.string m] 107)=w3:=⟨_,rfl⟩
   obtain⟨Q,bB⟩:∃Q,wr.heap.size=Q:=⟨_,rfl⟩
   rw[aY,bB]at ka
   have aP:Hid _:=ka
   clear ka r1 r2 r3 cL r4 r5 R
   go_upto_region 8 with fail
   try rw[aY]
   try rw[bB]
   clear aY bB s1 s2
   have R:=aP.out.kz _ _ _ Q1.out (by decide) (by decide) Q3.out
   have s1:w3.cell? ⟨ob,0,none⟩=some (.string m):=cell_of_row _ _ _ _ 131 _ R
   have s2:w3.cell? ⟨ob,1,none⟩=some (.int .i64 0):=cell_of_row _ _ _ _ 131 _ R
   clear R
   obtain⟨v1,u1,cB,A,⟨a1,c1,rfl⟩,N,_,_⟩:=aP.out.app (tS:=82) Tryz.underlying82 aD z0 z1 z2 rfl (by decide) rfl (by intro u hu;simp at hu;first|(subst hu;rfl)|(rcases hu with rfl|rfl<;>rfl)) (by decide) (by decide) (by decide) hn (by decide) (k':=1) (by omega) (by omega) #[.string m,.int .i64 0] rfl
   have q0:u1.cell? ⟨Q,1,none⟩=some (.slice none 0 0):=cell_of_row _ _ _ _ 107 _ A
   have q9:u1.frozen? ⟨Q,1,none⟩=false:=frozen_of_row _ _ _ _ 107 A
   have HR:Hid _:=cB
   have aI:Hid _:=N
   clear cB A N
   go_upto_region 9 with (at_builtin;refine zJ rfl (.tmp 35) (.tmp 37) 82 rfl _ _ _ (by simp[Act.eval]) (by simp[Act.eval]) _ HR.out ?_)
   clear q0 q9 HR s1 s2
   obtain⟨w4,aZ⟩:∃X,u1.setCell ⟨Q,1,none⟩ (.slice a1 (i+1) c1)=X:=⟨_,rfl⟩
   rw[aZ]at aI
   rw[aZ]
   clear aZ aP
   have R:=aI.out.kz _ _ _ Q1.out (by decide) (by decide) Q3.out
   have s1:w4.cell? ⟨ob,0,none⟩=some (.string m):=cell_of_row _ _ _ _ 131 _ R
   have s2:w4.cell? ⟨ob,1,none⟩=some (.int .i64 0):=cell_of_row _ _ _ _ 131 _ R
   clear R
   obtain⟨v2,u2,cC,A,⟨a2,c2,rfl⟩,_,N,_⟩:=aI.out.app (tS:=82) Tryz.underlying82 aD z0 z1 z2 rfl (by decide) rfl (by intro u hu;simp at hu;first|(subst hu;rfl)|(rcases hu with rfl|rfl<;>rfl)) (by decide) (by decide) (by decide) hn (by decide) (k':=2) (by omega) (by omega) #[.string m,.int .i64 0,.string m,.int .i64 0] rfl
   have q0:u2.cell? ⟨Q,2,none⟩=some (.slice none 0 0):=cell_of_row _ _ _ _ 107 _ A
   have q9:u2.frozen? ⟨Q,2,none⟩=false:=frozen_of_row _ _ _ _ 107 A
   have HR:Hid _:=cC
   have aJ:Hid _:=N
   clear cC A N
   go_upto_region 10 with (at_builtin;refine zJ rfl (.tmp 40) (.tmp 43) 82 rfl _ _ _ (by simp[Act.eval]) (by simp[Act.eval]) _ HR.out ?_)
   clear q0 q9 HR s1 s2
   obtain⟨w5,b0⟩:∃X,u2.setCell ⟨Q,2,none⟩ (.slice a2 (i+2) c2)=X:=⟨_,rfl⟩
   rw[b0]at aJ
   rw[b0]
   clear b0 aI
   have R:=aJ.out.kz _ _ _ Q1.out (by decide) (by decide) Q3.out
   have s1:w5.cell? ⟨ob,0,none⟩=some (.string m):=cell_of_row _ _ _ _ 131 _ R
   have s2:w5.cell? ⟨ob,1,none⟩=some (.int .i64 0):=cell_of_row _ _ _ _ 131 _ R
   clear R
   obtain⟨v3,u3,cD,A,⟨a3,c3,rfl⟩,_,_,N⟩:=aJ.out.app (tS:=82) Tryz.underlying82 aD z0 z1 z2 rfl (by decide) rfl (by intro u hu;simp at hu;first|(subst hu;rfl)|(rcases hu with rfl|rfl<;>rfl)) (by decide) (by decide) (by decide) hn (by decide) (k':=3) (by omega) (by omega) #[.string m,.int .i64 0,.string m,.int .i64 0,.string m,.int .i64 0] rfl
   have q0:u3.cell? ⟨Q,3,none⟩=some (.slice none 0 0):=cell_of_row _ _ _ _ 107 _ A
   have q9:u3.frozen? ⟨Q,3,none⟩=false:=frozen_of_row _ _ _ _ 107 A
   have HR:Hid _:=cD
   have G:Hid _:=N
   clear cD A N
   go_upto_region 11 with (at_builtin;refine zJ rfl (.tmp 46) (.tmp 50) 82 rfl _ _ _ (by simp[Act.eval]) (by simp[Act.eval]) _ HR.out ?_)
   clear q0 q9 HR s1 s2
   obtain⟨w6,bA⟩:∃X,u3.setCell ⟨Q,3,none⟩ (.slice a3 (i+3) c3)=X:=⟨_,rfl⟩
   rw[bA]at G
   rw[bA]
   clear bA aJ
   obtain⟨v8,w8,cE,⟨a8,c8,rfl⟩,aW,b1,b2,_,b3,b4,b5,b6,b7,b8,b9,aR⟩:=G.out.fin (tS5:=29) Tryz.underlying29 bY y0 y1 (by rw[y2];decide) rfl (by intro u hu;simp at hu;rcases hu with rfl|rfl|rfl|rfl|rfl<;>rfl) (by decide) (by decide) (by decide) d7 bV 5
   obtain⟨av,cv,dB⟩:=zA G.out.own
   subst dB
   have e0:w6.cell? ⟨Q,0,none⟩=some (.slice al i cl):=cell_of_row _ _ _ _ 107 _ G.out.row
   have e1:w6.cell? ⟨Q,1,none⟩=some (.slice a1 (i+1) c1):=cell_of_row _ _ _ _ 107 _ G.out.row
   have e2:w6.cell? ⟨Q,2,none⟩=some (.slice a2 (i+2) c2):=cell_of_row _ _ _ _ 107 _ G.out.row
   have e3:w6.cell? ⟨Q,3,none⟩=some (.slice a3 (i+3) c3):=cell_of_row _ _ _ _ 107 _ G.out.row
   have e4:w6.cell? ⟨Q,4,none⟩=some (.string m):=cell_of_row _ _ _ _ 107 _ G.out.row
   have p0:w6.cell? ⟨B,5,none⟩=some (.slice av D.E.length cv):=cell_of_row _ _ _ _ 33 _ G.out.hall
   have p1:w8.cell? ⟨B,5,none⟩=some (.slice av D.E.length cv):=cell_of_row _ _ _ _ 33 _ aW
   have p2:w8.frozen? ⟨B,5,none⟩=false:=frozen_of_row _ _ _ _ 33 aW
   have pz:(w6.alloc (.cells #[.slice al i cl,.slice a1 (i+1) c1,.slice a2 (i+2) c2,.slice a3 (i+3) c3,.string m] 107)).cell? ⟨B,5,none⟩=some (.slice av D.E.length cv):=by rw[World.cell?_alloc_lt _ _ _ (block_lt_of_cell p0)];exact p0
   have d0:Hid _:=cE
   have bM:Hid (zJA base B l0 lo D (.slice al i cl) w (w8.setCell ⟨B,5,none⟩ (.slice a8 (D.E.length+1) c8))):=by
    have hK:=K4.out.trans b9
    have dC:w.heap.size≤(w8.setCell ⟨B,5,none⟩ (.slice a8 (D.E.length+1) c8)).heap.size:=(K5.out.trans aR).size
    have aE:∀(j:Nat) (cs:Array Value) (t:TypeId),w.heap[j]? =some (.cells cs t (0,0))→t≠33→t≠107→t≠131→(w8.setCell ⟨B,5,none⟩ (.slice a8 (D.E.length+1) c8)).heap[j]? =some (.cells cs t (0,0)):=fun j cs t J aV h5 hE=>hK j cs t J aV h5 (fun e=>by
     obtain⟨cur,bW⟩:=zB HO.out j e
     exact zE J bW hE rfl)
    have a4:∀(q:Nat) (cur:Array Value) (ty:TypeId),D.has q→w.heap[q]? =some (.cells cur ty (0,0))→ty≠33→ty≠107→(w8.setCell ⟨B,5,none⟩ (.slice a8 (D.E.length+1) c8)).heap[q]? =w.heap[q]? :=fun q cur ty F hc aV h5=>by
     rw[hK q cur ty hc aV h5 (fun e=>HX.out q e F),hc]
    have aN:∀q,(base≤q∧q<w.heap.size)→base≤q∧q<(w8.setCell ⟨B,5,none⟩ (.slice a8 (D.E.length+1) c8)).heap.size:=fun q F=>⟨F.1,Nat.lt_of_lt_of_le F.2 dC⟩
    obtain⟨g2,g3,g4,g5⟩:=bP.out
    have d6:∀q,(⟨.slice al i cl,.slice a1 (i+1) c1,.slice a2 (i+2) c2,.slice a3 (i+3) c3,.string m⟩:Ent).has q→(Value.slice al i cl).ownBlock=some q∨w.heap.size≤q:=fun q F=>by
     rcases b7 q F with h|h
     ·exact .inl h
     ·exact .inr (Nat.le_trans K5.out.size h)
    refine⟨⟨.slice al i cl,.slice a1 (i+1) c1,.slice a2 (i+2) c2,.slice a3 (i+3) c3,.string m⟩,⟨⟨vT,vI,vO,(.slice a8 (D.E.length+1) c8),?_,zF g2 (fun j cs _ J=>aE j cs 99 J (by decide) (by decide) (by decide)),zF g3 (fun j cs _ J=>aE j cs 101 J (by decide) (by decide) (by decide)),zF g4 (fun j cs _ J=>aE j cs 104 J (by decide) (by decide) (by decide)),by rw[List.length_append];exact b2⟩,fun e he=> ?_,fun e he=> ?_,fun e he=> ?_,fun e he=> ?_⟩,d6,hK,K5.out.trans aR⟩
    ·rw[show (((D.n+1:Nat)):Int)=(D.n:Int)+1 by omega]
     exact b1
    ·obtain⟨a9,U,c9⟩:=HH.out.T e he
     exact⟨a9.kept (fun q cur F hc=>a4 q cur 9 (.inl ⟨e,he,F⟩) hc (by decide) (by decide)),U,fun q F=>aN q (c9 q F)⟩
    ·obtain⟨a9,U,c9⟩:=HH.out.I e he
     exact⟨a9.kept (fun q cur F hc=>a4 q cur 3 (.inr (.inl ⟨e,he,F⟩)) hc (by decide) (by decide)),U,fun q F=>aN q (c9 q F)⟩
    ·obtain⟨a9,U,c9⟩:=HH.out.O e he
     exact⟨a9.kept (fun q cur F hc=>a4 q cur 149 (.inr (.inr (.inl ⟨e,he,F⟩))) hc (by decide) (by decide)),U,fun q F=>aN q (c9 q F)⟩
    ·rcases List.mem_append.1 he with aL|aL
     ·obtain⟨a9,U,c9⟩:=HH.out.E e aL
      exact⟨a9.kept (fun q cur F hc=>a4 q cur 131 (.inr (.inr (.inr ⟨e,aL,F⟩))) hc (by decide) (by decide)),U,fun q F=>aN q (c9 q F)⟩
     ·rw[List.mem_singleton.1 aL]
      exact⟨⟨zBY b6 rfl (by omega),b3,b4,b5⟩,⟨_,rfl⟩,fun q F=>⟨(by rcases b7 q F with h|h;exact zK b6 q h;exact Nat.le_trans (Nat.le_trans aX K5.out.size) h),b8 q F⟩⟩
   clear aW b1 b2 b3 b4 b5 b6 b7 b8 b9 aR cE bY y0 y1 y2 aD z0 z1 z2
   go_region_law (refine zAF rfl (.tmp 57) (.tmp 59) 29 rfl _ _ _ (by simp[Act.eval]) (by simp[Act.eval]) _ d0.out ?_)
   all_goals go_end0
   all_goals exact⟨rfl,bM.out⟩
end Go.Proofs.YtlopecgkiikdhaaGreatDoor
