import Derived.Test.YtlopecgkiikdhaaGreatDoorX36
namespace Go.Proofs.YtlopecgkiikdhaaGreatDoor
open Go.RowKit
set_option maxRecDepth 100000
set_option maxHeartbeats 4000000
theorem zLs:(Tryz.prog.info? 99).map (fun i=>(i.zero,i.size,i.bytes))=some (some (.agg #[.slice none 0 0,.slice none 0 0,.slice none 0 0,.slice none 0 0,.string ⟨#[]⟩]),5,112):=by kernel_rfl
def zLE (base B:Nat)(l0 lo:Value)(bk:Bk)(l:Value)(w w':World):Prop:=
 ∃x:Ent,BkI base B l0 lo { bk with n:=bk.n+1,T:=bk.T++[x] } w'∧(∀q,x.has q→l.ownBlock=some q∨w.heap.size≤q)∧Kz 99 l.ownBlock w w'∧Below base w w'
theorem keepT (base B:Nat)(l0 lo:Value)(D:Bk)(l:Value)(n:Nat)(xs:List Value)(w:World)(H:BkI base B l0 lo D w)(ho:w.ownsRow base 9 1 l n xs)(hx:∀q,l.ownBlock=some q→¬D.has q)(aR:base≤w.heap.size)(bP:base≤B)(hn:n≤1000000000)(dZ:D.n≤100000000000)(cZ:D.T.length≤100000000000):
 Calls Tryz.prog 69 #[.pointer (some ⟨B,1,none⟩),l] w fun e w'=>e=.returned (.tuple #[])∧zLE base B l0 lo D l w w':=by
 have HH:Hid _:=H
 obtain⟨vT,vI,vO,vE,h1,h2,h3,h4,h5⟩:=H.row
 have o0:w.cell? ⟨B,1,none⟩=some (.int .i64 D.n):=cell_of_row _ _ _ _ 33 _ h1
 have f0:w.frozen? ⟨B,1,none⟩=false:=frozen_of_row w B 1 _ 33 h1
 obtain⟨W1,a5⟩:∃W1,w.setCell ⟨B,1,none⟩ (.int .i64 ((D.n:Int)+1))=W1:=⟨_,rfl⟩
 have k1:W1.heap[B]? =some (.cells #[l0,.int .i64 ((D.n:Int)+1),vT,vI,vO,vE,lo] 33 (0,0)):=by rw[←a5];exact zH _ _ _ _ _ _ _ h1
 have o1:W1.cell? ⟨B,1,none⟩=some (.int .i64 ((D.n:Int)+1)):=cell_of_row _ _ _ _ 33 _ k1
 have k2:W1.ownsRow base 99 5 vT D.T.length (zv D.T):=by rw[←a5];exact zF h2 (fun j Z _ J=>by rw[zC _ _ _ _ _ (zE J h1 (by decide))];exact J)
 have k3:W1.ownsRow base 9 1 l n xs:=by rw[←a5];exact zF ho (fun j Z _ J=>by rw[zC _ _ _ _ _ (zE J h1 (by decide))];exact J)
 have k4:Kz 99 l.ownBlock w W1:=by rw[←a5];exact Kz.set h1 (.inl rfl) _ _
 have k5:Below base w W1:=by rw[←a5];exact (Below.refl _ _).setCell (p:=⟨B,1,none⟩) bP _
 obtain⟨al,cl,d3⟩:=zA ho
 have f1:xs.length=n*1:=ho.1
 have HX:Hid _:=hx
 have HO:Hid (w.ownsRow base 9 1 l n xs):=ho
 have bF:Hid _:=And.intro h2 (And.intro h3 (And.intro h4 h5))
 clear H h1 h2 h3 h4 h5 ho hx
 have K1:Hid _:=k1
 have K2:Hid _:=k2
 have K3:Hid _:=k3
 have K4:Hid (Kz 99 l.ownBlock w W1):=k4
 have K5:Hid _:=k5
 clear k1 k2 k3 k4 k5
 subst d3
 go_enter Tryz.func69,Tryz.ntmps69
 go_wp2_with fail
 rw[show ((D.n:Int)+1)=((D.n+1:Nat):Int) by omega]
 refine (zDM (D.n+1) W1 (by omega)).mono ?_
 rintro e W2 ⟨m,rfl,bO⟩
 obtain⟨W,hW⟩:∃W,W2=W:=⟨_,rfl⟩
 have a4:Below W1.heap.size W1 W:=by rw[←hW];exact bO
 have k1:W.heap[B]? =some (.cells #[l0,.int .i64 ((D.n:Int)+1),vT,vI,vO,vE,lo] 33 (0,0)):=by rw[a4.block B (Array.getElem?_eq_some_iff.1 K1.out).1];exact K1.out
 have k2:=zD K2.out (fun q F=>a4.block q (zG K2.out q F))
 have k3:=zD K3.out (fun q F=>a4.block q (zG K3.out q F))
 have k4:=K4.out.trans (Kz.below a4)
 have k5:=K5.out.trans (a4.mono (Nat.le_trans aR K5.out.size))
 clear K1 K2 K3 K4 K5
 have K1:Hid _:=k1
 have K2:Hid _:=k2
 have K3:Hid _:=k3
 have K4:Hid (Kz 99 (Value.slice al n cl).ownBlock w W):=k4
 have K5:Hid _:=k5
 clear k1 k2 k3 k4 k5 bO a4 o0 o1 f0 a5
 rw[hW]
 clear hW
 go_wp2_with fail
 go_loopw [5] (fun iv wr=>∃i:Nat,i≤n∧iv=.int .i64 i∧wr.heap[B]? =some (.cells #[l0,.int .i64 ((D.n:Int)+1),vT,vI,vO,vE,lo] 33 (0,0))∧wr.ownsRow base 99 5 vT D.T.length (zv D.T)∧wr.ownsRow base 9 1 (.slice al n cl) n (zAW [.string m] i++xs.drop i)∧Kz 99 (Value.slice al n cl).ownBlock W wr∧Below base W wr) (fun iv _=>n-(intOf iv).toNat)
 case atStart=>exact⟨0,Nat.zero_le _,rfl,K1.out,K2.out,K3.out,Kz.refl _ _ _,Below.refl _ _⟩
 case round=>
  obtain⟨i,hi,rfl,r1,r2,r3,r4,r5⟩:=hrel
  by_cases d1:i<n
  ·have bT:(i:Int)<(n:Int):=by omega
   have aA:(0:Int)≤(i:Int):=by omega
   obtain⟨g,rfl⟩:∃g,al=some ⟨g,0,none⟩:=by
    rcases r3.2 with ⟨e,e0⟩|⟨g,dS,cur,e,_⟩
    ·omega
    ·exact⟨g,by cases e;rfl⟩
   obtain⟨p1,p2,Q,p3⟩:=zAD r3 (p:=i) (by omega) (.string m)
   rw[zF3 _ xs i n d1 (by omega)]at p1
   have d0:g≠B:=zE (zB r3 g rfl).choose_spec r1 (by decide)
   have P1:Hid _:=p1
   have R1:Hid ((wr.setCell ⟨g,i,none⟩ (.string m)).heap[B]? =some (.cells #[l0,.int .i64 ((D.n:Int)+1),vT,vI,vO,vE,lo] 33 (0,0))):=by show _=_;rw[zC _ _ _ _ _ d0.symm];exact r1
   have R2:Hid ((wr.setCell ⟨g,i,none⟩ (.string m)).ownsRow base 99 5 vT D.T.length (zv D.T)):=zF r2 (fun j Z _ J=>by rw[zC _ _ _ _ _ (zE J (zB r3 g rfl).choose_spec (by decide))];exact J)
   have R4:Hid (Kz 99 (some g) W (wr.setCell ⟨g,i,none⟩ (.string m))):=Kz.setz r4 _ _
   have R5:Hid (Below base W (wr.setCell ⟨g,i,none⟩ (.string m))):=r5.setCell (p:=⟨g,i,none⟩) (zK r3 g rfl) _
   clear p1 r1 r2 r3 r4 r5
   go_wp2_with fail
   go_roundw
   case rel=>exact⟨i+1,by omega,by go_num,R1.out,R2.out,P1.out,R4.out,R5.out⟩
   case measure=>simp[intOf];omega
  ·obtain rfl:i=n:=by omega
   have bT:¬(i:Int)<(i:Int):=by omega
   have cF:wr.ownsRow base 9 1 (.slice al i cl) i (zAW [.string m] i):=by
    rw[List.drop_eq_nil_of_le (by omega),List.append_nil]at r3;exact r3
   have ka:=KA.start (m:=.string m) r1 r2 cF r4 r5 (Nat.le_trans aR K5.out.size)
   obtain⟨i0,aA,z0,z1,z2⟩:=info_parts zAl
   obtain⟨j0,bS,y0,y1,y2⟩:=info_parts zLs
   obtain⟨w3,aS⟩:∃w3,wr.alloc (.cells #[.slice al i cl,.slice none 0 0,.slice none 0 0,.slice none 0 0,.string m] 99)=w3:=⟨_,rfl⟩
   obtain⟨Q,aW⟩:∃Q,wr.heap.size=Q:=⟨_,rfl⟩
   rw[aS,aW]at ka
   have bK:Hid _:=ka
   clear ka r1 r2 r3 cF r4 r5
   go_upto_region 7 with fail
   try rw[aS]
   try rw[aW]
   clear aS aW
   obtain⟨v1,u1,bV,A,⟨a1,c1,rfl⟩,N,_,_⟩:=bK.out.app (tS:=22) Tryz.underlying22 aA z0 z1 z2 rfl (by decide) rfl (by intro u hu;simp at hu;first|(subst hu;rfl)|(rcases hu with rfl|rfl<;>rfl)) (by decide) (by decide) (by decide) hn (by decide) (k':=1) (by omega) (by omega) #[.string m] rfl
   have q0:u1.cell? ⟨Q,1,none⟩=some (.slice none 0 0):=cell_of_row _ _ _ _ 99 _ A
   have q9:u1.frozen? ⟨Q,1,none⟩=false:=frozen_of_row _ _ _ _ 99 A
   have HR:Hid _:=bV
   have aJ:Hid _:=N
   clear bV A N
   go_upto_region 8 with (at_builtin;refine zJ rfl (.tmp 32) (.tmp 34) 22 rfl _ _ _ (by simp[Act.eval]) (by simp[Act.eval]) _ HR.out ?_)
   clear q0 q9 HR
   obtain⟨w4,aT⟩:∃X,u1.setCell ⟨Q,1,none⟩ (.slice a1 (i+1) c1)=X:=⟨_,rfl⟩
   rw[aT]at aJ
   rw[aT]
   clear aT bK
   obtain⟨v2,u2,bW,A,⟨a2,c2,rfl⟩,_,N,_⟩:=aJ.out.app (tS:=22) Tryz.underlying22 aA z0 z1 z2 rfl (by decide) rfl (by intro u hu;simp at hu;first|(subst hu;rfl)|(rcases hu with rfl|rfl<;>rfl)) (by decide) (by decide) (by decide) hn (by decide) (k':=2) (by omega) (by omega) #[.string m,.string m] rfl
   have q0:u2.cell? ⟨Q,2,none⟩=some (.slice none 0 0):=cell_of_row _ _ _ _ 99 _ A
   have q9:u2.frozen? ⟨Q,2,none⟩=false:=frozen_of_row _ _ _ _ 99 A
   have HR:Hid _:=bW
   have aK:Hid _:=N
   clear bW A N
   go_upto_region 9 with (at_builtin;refine zJ rfl (.tmp 37) (.tmp 40) 22 rfl _ _ _ (by simp[Act.eval]) (by simp[Act.eval]) _ HR.out ?_)
   clear q0 q9 HR
   obtain⟨w5,aU⟩:∃X,u2.setCell ⟨Q,2,none⟩ (.slice a2 (i+2) c2)=X:=⟨_,rfl⟩
   rw[aU]at aK
   rw[aU]
   clear aU aJ
   obtain⟨v3,u3,bX,A,⟨a3,c3,rfl⟩,_,_,N⟩:=aK.out.app (tS:=22) Tryz.underlying22 aA z0 z1 z2 rfl (by decide) rfl (by intro u hu;simp at hu;first|(subst hu;rfl)|(rcases hu with rfl|rfl<;>rfl)) (by decide) (by decide) (by decide) hn (by decide) (k':=3) (by omega) (by omega) #[.string m,.string m,.string m] rfl
   have q0:u3.cell? ⟨Q,3,none⟩=some (.slice none 0 0):=cell_of_row _ _ _ _ 99 _ A
   have q9:u3.frozen? ⟨Q,3,none⟩=false:=frozen_of_row _ _ _ _ 99 A
   have HR:Hid _:=bX
   have G:Hid _:=N
   clear bX A N
   go_upto_region 10 with (at_builtin;refine zJ rfl (.tmp 43) (.tmp 47) 22 rfl _ _ _ (by simp[Act.eval]) (by simp[Act.eval]) _ HR.out ?_)
   clear q0 q9 HR
   obtain⟨w6,aV⟩:∃X,u3.setCell ⟨Q,3,none⟩ (.slice a3 (i+3) c3)=X:=⟨_,rfl⟩
   rw[aV]at G
   rw[aV]
   clear aV aK
   obtain⟨v8,w8,bY,⟨a8,c8,rfl⟩,aQ,b1,b2,_,b3,b4,b5,b6,b7,b8,b9,aM⟩:=G.out.fin (tS5:=26) Tryz.underlying26 bS y0 y1 (by rw[y2];decide) rfl (by intro u hu;simp at hu;rcases hu with rfl|rfl|rfl|rfl|rfl<;>rfl) (by decide) (by decide) (by decide) cZ bP 2
   obtain⟨av,cv,d4⟩:=zA G.out.own
   subst d4
   have e0:w6.cell? ⟨Q,0,none⟩=some (.slice al i cl):=cell_of_row _ _ _ _ 99 _ G.out.row
   have e1:w6.cell? ⟨Q,1,none⟩=some (.slice a1 (i+1) c1):=cell_of_row _ _ _ _ 99 _ G.out.row
   have e2:w6.cell? ⟨Q,2,none⟩=some (.slice a2 (i+2) c2):=cell_of_row _ _ _ _ 99 _ G.out.row
   have e3:w6.cell? ⟨Q,3,none⟩=some (.slice a3 (i+3) c3):=cell_of_row _ _ _ _ 99 _ G.out.row
   have e4:w6.cell? ⟨Q,4,none⟩=some (.string m):=cell_of_row _ _ _ _ 99 _ G.out.row
   have p0:w6.cell? ⟨B,2,none⟩=some (.slice av D.T.length cv):=cell_of_row _ _ _ _ 33 _ G.out.hall
   have p1:w8.cell? ⟨B,2,none⟩=some (.slice av D.T.length cv):=cell_of_row _ _ _ _ 33 _ aQ
   have p2:w8.frozen? ⟨B,2,none⟩=false:=frozen_of_row _ _ _ _ 33 aQ
   have pz:(w6.alloc (.cells #[.slice al i cl,.slice a1 (i+1) c1,.slice a2 (i+2) c2,.slice a3 (i+3) c3,.string m] 99)).cell? ⟨B,2,none⟩=some (.slice av D.T.length cv):=by rw[World.cell?_alloc_lt _ _ _ (block_lt_of_cell p0)];exact p0
   have cQ:Hid _:=bY
   have bE:Hid (zLE base B l0 lo D (.slice al i cl) w (w8.setCell ⟨B,2,none⟩ (.slice a8 (D.T.length+1) c8))):=by
    have hK:=K4.out.trans b9
    have d5:w.heap.size≤(w8.setCell ⟨B,2,none⟩ (.slice a8 (D.T.length+1) c8)).heap.size:=(K5.out.trans aM).size
    have aB:∀(j:Nat) (Z:Array Value) (t:TypeId),w.heap[j]? =some (.cells Z t (0,0))→t≠33→t≠99→t≠9→(w8.setCell ⟨B,2,none⟩ (.slice a8 (D.T.length+1) c8)).heap[j]? =some (.cells Z t (0,0)):=fun j Z t J aP h5 hE=>hK j Z t J aP h5 (fun e=>by
     obtain⟨cur,bQ⟩:=zB HO.out j e
     exact zE J bQ hE rfl)
    have U:∀(q:Nat) (cur:Array Value) (ty:TypeId),D.has q→w.heap[q]? =some (.cells cur ty (0,0))→ty≠33→ty≠99→(w8.setCell ⟨B,2,none⟩ (.slice a8 (D.T.length+1) c8)).heap[q]? =w.heap[q]? :=fun q cur ty F hc aP h5=>by
     rw[hK q cur ty hc aP h5 (fun e=>HX.out q e F),hc]
    have aG:∀q,(base≤q∧q<w.heap.size)→base≤q∧q<(w8.setCell ⟨B,2,none⟩ (.slice a8 (D.T.length+1) c8)).heap.size:=fun q F=>⟨F.1,Nat.lt_of_lt_of_le F.2 d5⟩
    obtain⟨g2,g3,g4,g5⟩:=bF.out
    have cY:∀q,(⟨.slice al i cl,.slice a1 (i+1) c1,.slice a2 (i+2) c2,.slice a3 (i+3) c3,.string m⟩:Ent).has q→(Value.slice al i cl).ownBlock=some q∨w.heap.size≤q:=fun q F=>by
     rcases b7 q F with h|h
     ·exact .inl h
     ·exact .inr (Nat.le_trans K5.out.size h)
    refine⟨⟨.slice al i cl,.slice a1 (i+1) c1,.slice a2 (i+2) c2,.slice a3 (i+3) c3,.string m⟩,⟨⟨(.slice a8 (D.T.length+1) c8),vI,vO,vE,?_,by rw[List.length_append];exact b2,zF g3 (fun j Z _ J=>aB j Z 101 J (by decide) (by decide) (by decide)),zF g4 (fun j Z _ J=>aB j Z 104 J (by decide) (by decide) (by decide)),zF g5 (fun j Z _ J=>aB j Z 107 J (by decide) (by decide) (by decide))⟩,fun e he=> ?_,fun e he=> ?_,fun e he=> ?_,fun e he=> ?_⟩,cY,hK,K5.out.trans aM⟩
    ·rw[show (((D.n+1:Nat)):Int)=(D.n:Int)+1 by omega]
     exact b1
    ·rcases List.mem_append.1 he with aF|aF
     ·obtain⟨a9,R,c9⟩:=HH.out.T e aF
      exact⟨a9.kept (fun q cur F hc=>U q cur 9 (.inl ⟨e,aF,F⟩) hc (by decide) (by decide)),R,fun q F=>aG q (c9 q F)⟩
     ·rw[List.mem_singleton.1 aF]
      exact⟨⟨zBY b6 rfl (by omega),b3,b4,b5⟩,⟨_,rfl⟩,fun q F=>⟨(by rcases b7 q F with h|h;exact zK b6 q h;exact Nat.le_trans (Nat.le_trans aR K5.out.size) h),b8 q F⟩⟩
    ·obtain⟨a9,R,c9⟩:=HH.out.I e he
     exact⟨a9.kept (fun q cur F hc=>U q cur 3 (.inr (.inl ⟨e,he,F⟩)) hc (by decide) (by decide)),R,fun q F=>aG q (c9 q F)⟩
    ·obtain⟨a9,R,c9⟩:=HH.out.O e he
     exact⟨a9.kept (fun q cur F hc=>U q cur 149 (.inr (.inr (.inl ⟨e,he,F⟩))) hc (by decide) (by decide)),R,fun q F=>aG q (c9 q F)⟩
    ·obtain⟨a9,R,c9⟩:=HH.out.E e he
     exact⟨a9.kept (fun q cur F hc=>U q cur 131 (.inr (.inr (.inr ⟨e,he,F⟩))) hc (by decide) (by decide)),R,fun q F=>aG q (c9 q F)⟩
   clear aQ b1 b2 b3 b4 b5 b6 b7 b8 b9 aM bY bS y0 y1 y2 aA z0 z1 z2
   go_region_law (refine zAF rfl (.tmp 54) (.tmp 56) 26 rfl _ _ _ (by simp[Act.eval]) (by simp[Act.eval]) _ cQ.out ?_)
   all_goals go_end0
   all_goals exact⟨rfl,bE.out⟩
theorem zLu:(Tryz.prog.info? 104).map (fun i=>(i.zero,i.size,i.bytes))=some (some (.agg #[.slice none 0 0,.slice none 0 0,.slice none 0 0,.slice none 0 0,.string ⟨#[]⟩]),5,112):=by kernel_rfl
def zLD (base B:Nat)(l0 lo:Value)(bk:Bk)(l:Value)(w w':World):Prop:=
 ∃x:Ent,BkI base B l0 lo { bk with n:=bk.n+1,O:=bk.O++[x] } w'∧(∀q,x.has q→l.ownBlock=some q∨w.heap.size≤q)∧Kz 104 l.ownBlock w w'∧Below base w w'
theorem keepO (base B:Nat)(l0 lo:Value)(D:Bk)(l:Value)(n:Nat)(xs:List Value)(w:World)(H:BkI base B l0 lo D w)(ho:w.ownsRow base 149 2 l n xs)(hx:∀q,l.ownBlock=some q→¬D.has q)(aV:base≤w.heap.size)(bV:base≤B)(hn:n≤1000000000)(fE:D.n≤100000000000)(d7:D.O.length≤100000000000):
 Calls Tryz.prog 68 #[.pointer (some ⟨B,1,none⟩),l] w fun e w'=>e=.returned (.tuple #[])∧zLD base B l0 lo D l w w':=by
 have HH:Hid _:=H
 obtain⟨vT,vI,vO,vE,h1,h2,h3,h4,h5⟩:=H.row
 have o0:w.cell? ⟨B,1,none⟩=some (.int .i64 D.n):=cell_of_row _ _ _ _ 33 _ h1
 have f0:w.frozen? ⟨B,1,none⟩=false:=frozen_of_row w B 1 _ 33 h1
 obtain⟨W1,aA⟩:∃W1,w.setCell ⟨B,1,none⟩ (.int .i64 ((D.n:Int)+1))=W1:=⟨_,rfl⟩
 have k1:W1.heap[B]? =some (.cells #[l0,.int .i64 ((D.n:Int)+1),vT,vI,vO,vE,lo] 33 (0,0)):=by rw[←aA];exact zH _ _ _ _ _ _ _ h1
 have o1:W1.cell? ⟨B,1,none⟩=some (.int .i64 ((D.n:Int)+1)):=cell_of_row _ _ _ _ 33 _ k1
 have k2:W1.ownsRow base 104 5 vO D.O.length (zv D.O):=by rw[←aA];exact zF h4 (fun j cs _ J=>by rw[zC _ _ _ _ _ (zE J h1 (by decide))];exact J)
 have k3:W1.ownsRow base 149 2 l n xs:=by rw[←aA];exact zF ho (fun j cs _ J=>by rw[zC _ _ _ _ _ (zE J h1 (by decide))];exact J)
 have k4:Kz 104 l.ownBlock w W1:=by rw[←aA];exact Kz.set h1 (.inl rfl) _ _
 have k5:Below base w W1:=by rw[←aA];exact (Below.refl _ _).setCell (p:=⟨B,1,none⟩) bV _
 obtain⟨al,cl,dA⟩:=zA ho
 have fF:xs.length=n*2:=ho.1
 have HX:Hid _:=hx
 have HO:Hid (w.ownsRow base 149 2 l n xs):=ho
 have bP:Hid _:=And.intro h2 (And.intro h3 (And.intro h4 h5))
 clear H h1 h2 h3 h4 h5 ho hx
 have K1:Hid _:=k1
 have K2:Hid _:=k2
 have K3:Hid _:=k3
 have K4:Hid (Kz 104 l.ownBlock w W1):=k4
 have K5:Hid _:=k5
 clear k1 k2 k3 k4 k5
 subst dA
 go_enter Tryz.func68,Tryz.ntmps68
 go_wp2_with fail
 rw[show ((D.n:Int)+1)=((D.n+1:Nat):Int) by omega]
 refine (zDM (D.n+1) W1 (by omega)).mono ?_
 rintro e W2 ⟨m,rfl,aJ⟩
 obtain⟨W,hW⟩:∃W,W2.alloc (.cells #[.string m,.string m] 149)=W:=⟨_,rfl⟩
 obtain⟨ob,aL⟩:∃ob,W2.heap.size=ob:=⟨_,rfl⟩
 have a7:Below W1.heap.size W1 W:=by rw[←hW];exact aJ.alloc aJ.size _
 have q1:W.heap[ob]? =some (.cells #[.string m,.string m] 149 (0,0)):=by rw[←hW,←aL];exact heap_alloc_new _ _
 have q2:W1.heap.size≤ob:=by rw[←aL];exact aJ.size
 have k1:W.heap[B]? =some (.cells #[l0,.int .i64 ((D.n:Int)+1),vT,vI,vO,vE,lo] 33 (0,0)):=by rw[a7.block B (Array.getElem?_eq_some_iff.1 K1.out).1];exact K1.out
 have k2:=zD K2.out (fun q F=>a7.block q (zG K2.out q F))
 have k3:=zD K3.out (fun q F=>a7.block q (zG K3.out q F))
 have k4:=K4.out.trans (Kz.below a7)
 have k5:=K5.out.trans (a7.mono (Nat.le_trans aV K5.out.size))
 have q3:(Value.slice al n cl).ownBlock≠some ob:=fun e=>by have:=zG K3.out ob e;omega
 clear K1 K2 K3 K4 K5
 have K1:Hid _:=k1
 have K2:Hid _:=k2
 have K3:Hid _:=k3
 have K4:Hid (Kz 104 (Value.slice al n cl).ownBlock w W):=k4
 have K5:Hid _:=k5
 clear k1 k2 k3 k4 k5 aJ a7 o0 o1 f0 aA
 have Q1:Hid _:=q1
 have Q3:Hid _:=q3
 have HW:Hid _:=hW
 have bO:Hid _:=aL
 clear hW aL q1 q3 q2
 go_upto_region 3 with fail
 rw[HW.out,bO.out]
 clear HW bO
 go_wp2_with fail
 go_loopw [6] (fun iv wr=>∃i:Nat,i≤n∧iv=.int .i64 i∧wr.heap[B]? =some (.cells #[l0,.int .i64 ((D.n:Int)+1),vT,vI,vO,vE,lo] 33 (0,0))∧wr.ownsRow base 104 5 vO D.O.length (zv D.O)∧wr.ownsRow base 149 2 (.slice al n cl) n (zAW [.string m,.string m] i++xs.drop (i*2))∧Kz 104 (Value.slice al n cl).ownBlock W wr∧Below base W wr) (fun iv _=>n-(intOf iv).toNat)
 case atStart=>exact⟨0,Nat.zero_le _,rfl,K1.out,K2.out,K3.out,Kz.refl _ _ _,Below.refl _ _⟩
 case round=>
  obtain⟨i,hi,rfl,r1,r2,r3,r4,r5⟩:=hrel
  have R:=r4 _ _ _ Q1.out (by decide) (by decide) Q3.out
  have s1:wr.cell? ⟨ob,0,none⟩=some (.string m):=cell_of_row _ _ _ _ 149 _ R
  have s2:wr.cell? ⟨ob,1,none⟩=some (.string m):=cell_of_row _ _ _ _ 149 _ R
  by_cases d8:i<n
  ·have bZ:(i:Int)<(n:Int):=by omega
   have aC:(0:Int)≤(i:Int):=by omega
   obtain⟨g,rfl⟩:∃g,al=some ⟨g,0,none⟩:=by
    rcases r3.2 with ⟨e,e0⟩|⟨g,f7,cur,e,_⟩
    ·omega
    ·exact⟨g,by cases e;rfl⟩
   obtain⟨p1,p2,Q,p3⟩:=zAD r3 (p:=i*2) (by omega) (.string m)
   obtain⟨p4,p5,x1,p6⟩:=zAD p1 (p:=i*2+1) (by omega) (.string m)
   rw[zF4 _ _ xs i n d8 (by omega)]at p4
   have p7:∃y,wr.cell? ⟨g,i*2+1,none⟩=some y:=(zAD r3 (p:=i*2+1) (by omega) (.string m)).2.2
   obtain⟨x2,p7⟩:=p7
   have p8:wr.frozen? ⟨g,i*2+1,none⟩=false:=(zAD r3 (p:=i*2+1) (by omega) (.string m)).2.1
   have bX:g≠B:=zE (zB r3 g rfl).choose_spec r1 (by decide)
   have P4:Hid _:=p4
   have R1:Hid (((wr.setCell ⟨g,i*2,none⟩ (.string m)).setCell ⟨g,i*2+1,none⟩ (.string m)).heap[B]? =some (.cells #[l0,.int .i64 ((D.n:Int)+1),vT,vI,vO,vE,lo] 33 (0,0))):=by show _=_;rw[zC _ _ _ _ _ bX.symm,zC _ _ _ _ _ bX.symm];exact r1
   have R2:Hid (((wr.setCell ⟨g,i*2,none⟩ (.string m)).setCell ⟨g,i*2+1,none⟩ (.string m)).ownsRow base 104 5 vO D.O.length (zv D.O)):=zF r2 (fun j cs _ J=>by rw[zC _ _ _ _ _ (zE J (zB r3 g rfl).choose_spec (by decide)),zC _ _ _ _ _ (zE J (zB r3 g rfl).choose_spec (by decide))];exact J)
   have R4:Hid (Kz 104 (some g) W ((wr.setCell ⟨g,i*2,none⟩ (.string m)).setCell ⟨g,i*2+1,none⟩ (.string m))):=Kz.setz (Kz.setz r4 _ _) _ _
   have R5:Hid (Below base W ((wr.setCell ⟨g,i*2,none⟩ (.string m)).setCell ⟨g,i*2+1,none⟩ (.string m))):=(r5.setCell (p:=⟨g,i*2,none⟩) (zK r3 g rfl) _).setCell (p:=⟨g,i*2+1,none⟩) (zK r3 g rfl) _
   clear p1 p4 r1 r2 r3 r4 r5 R
   go_wp2_with fail
   go_roundw
   case rel=>exact⟨i+1,by omega,by go_num,R1.out,R2.out,P4.out,R4.out,R5.out⟩
   case measure=>simp[intOf];omega
  ·obtain rfl:i=n:=by omega
   have bZ:¬(i:Int)<(i:Int):=by omega
   have cL:wr.ownsRow base 149 2 (.slice al i cl) i (zAW [.string m,.string m] i):=by
    rw[List.drop_eq_nil_of_le (by omega),List.append_nil]at r3;exact r3
   have ka:=KA.start (m:=.string m) r1 r2 cL r4 r5 (Nat.le_trans aV K5.out.size)
   obtain⟨i0,aC,z0,z1,z2⟩:=info_parts zHc
   obtain⟨j0,bY,y0,y1,y2⟩:=info_parts zLu
   obtain⟨w3,aW⟩:∃w3,wr.alloc (.cells #[.slice al i cl,.slice none 0 0,.slice none 0 0,.slice none 0 0,.string m] 104)=w3:=⟨_,rfl⟩
   obtain⟨Q,b0⟩:∃Q,wr.heap.size=Q:=⟨_,rfl⟩
   rw[aW,b0]at ka
   have aO:Hid _:=ka
   clear ka r1 r2 r3 cL r4 r5 R
   go_upto_region 8 with fail
   try rw[aW]
   try rw[b0]
   clear aW b0 s1 s2
   have R:=aO.out.kz _ _ _ Q1.out (by decide) (by decide) Q3.out
   have s1:w3.cell? ⟨ob,0,none⟩=some (.string m):=cell_of_row _ _ _ _ 149 _ R
   have s2:w3.cell? ⟨ob,1,none⟩=some (.string m):=cell_of_row _ _ _ _ 149 _ R
   clear R
   obtain⟨v1,u1,cB,A,⟨a1,c1,rfl⟩,N,_,_⟩:=aO.out.app (tS:=102) Tryz.underlying102 aC z0 z1 z2 rfl (by decide) rfl (by intro u hu;simp at hu;first|(subst hu;rfl)|(rcases hu with rfl|rfl<;>rfl)) (by decide) (by decide) (by decide) hn (by decide) (k':=1) (by omega) (by omega) #[.string m,.string m] rfl
   have q0:u1.cell? ⟨Q,1,none⟩=some (.slice none 0 0):=cell_of_row _ _ _ _ 104 _ A
   have q9:u1.frozen? ⟨Q,1,none⟩=false:=frozen_of_row _ _ _ _ 104 A
   have HR:Hid _:=cB
   have aH:Hid _:=N
   clear cB A N
   go_upto_region 9 with (at_builtin;refine zJ rfl (.tmp 36) (.tmp 38) 102 rfl _ _ _ (by simp[Act.eval]) (by simp[Act.eval]) _ HR.out ?_)
   clear q0 q9 HR s1 s2
   obtain⟨w4,aX⟩:∃X,u1.setCell ⟨Q,1,none⟩ (.slice a1 (i+1) c1)=X:=⟨_,rfl⟩
   rw[aX]at aH
   rw[aX]
   clear aX aO
   have R:=aH.out.kz _ _ _ Q1.out (by decide) (by decide) Q3.out
   have s1:w4.cell? ⟨ob,0,none⟩=some (.string m):=cell_of_row _ _ _ _ 149 _ R
   have s2:w4.cell? ⟨ob,1,none⟩=some (.string m):=cell_of_row _ _ _ _ 149 _ R
   clear R
   obtain⟨v2,u2,cC,A,⟨a2,c2,rfl⟩,_,N,_⟩:=aH.out.app (tS:=102) Tryz.underlying102 aC z0 z1 z2 rfl (by decide) rfl (by intro u hu;simp at hu;first|(subst hu;rfl)|(rcases hu with rfl|rfl<;>rfl)) (by decide) (by decide) (by decide) hn (by decide) (k':=2) (by omega) (by omega) #[.string m,.string m,.string m,.string m] rfl
   have q0:u2.cell? ⟨Q,2,none⟩=some (.slice none 0 0):=cell_of_row _ _ _ _ 104 _ A
   have q9:u2.frozen? ⟨Q,2,none⟩=false:=frozen_of_row _ _ _ _ 104 A
   have HR:Hid _:=cC
   have aI:Hid _:=N
   clear cC A N
   go_upto_region 10 with (at_builtin;refine zJ rfl (.tmp 41) (.tmp 44) 102 rfl _ _ _ (by simp[Act.eval]) (by simp[Act.eval]) _ HR.out ?_)
   clear q0 q9 HR s1 s2
   obtain⟨w5,aY⟩:∃X,u2.setCell ⟨Q,2,none⟩ (.slice a2 (i+2) c2)=X:=⟨_,rfl⟩
   rw[aY]at aI
   rw[aY]
   clear aY aH
   have R:=aI.out.kz _ _ _ Q1.out (by decide) (by decide) Q3.out
   have s1:w5.cell? ⟨ob,0,none⟩=some (.string m):=cell_of_row _ _ _ _ 149 _ R
   have s2:w5.cell? ⟨ob,1,none⟩=some (.string m):=cell_of_row _ _ _ _ 149 _ R
   clear R
   obtain⟨v3,u3,cD,A,⟨a3,c3,rfl⟩,_,_,N⟩:=aI.out.app (tS:=102) Tryz.underlying102 aC z0 z1 z2 rfl (by decide) rfl (by intro u hu;simp at hu;first|(subst hu;rfl)|(rcases hu with rfl|rfl<;>rfl)) (by decide) (by decide) (by decide) hn (by decide) (k':=3) (by omega) (by omega) #[.string m,.string m,.string m,.string m,.string m,.string m] rfl
   have q0:u3.cell? ⟨Q,3,none⟩=some (.slice none 0 0):=cell_of_row _ _ _ _ 104 _ A
   have q9:u3.frozen? ⟨Q,3,none⟩=false:=frozen_of_row _ _ _ _ 104 A
   have HR:Hid _:=cD
   have G:Hid _:=N
   clear cD A N
   go_upto_region 11 with (at_builtin;refine zJ rfl (.tmp 47) (.tmp 51) 102 rfl _ _ _ (by simp[Act.eval]) (by simp[Act.eval]) _ HR.out ?_)
   clear q0 q9 HR s1 s2
   obtain⟨w6,aZ⟩:∃X,u3.setCell ⟨Q,3,none⟩ (.slice a3 (i+3) c3)=X:=⟨_,rfl⟩
   rw[aZ]at G
   rw[aZ]
   clear aZ aI
   obtain⟨v8,w8,cE,⟨a8,c8,rfl⟩,aU,b1,b2,_,b3,b4,b5,b6,b7,b8,b9,aQ⟩:=G.out.fin (tS5:=28) Tryz.underlying28 bY y0 y1 (by rw[y2];decide) rfl (by intro u hu;simp at hu;rcases hu with rfl|rfl|rfl|rfl|rfl<;>rfl) (by decide) (by decide) (by decide) d7 bV 4
   obtain⟨av,cv,dB⟩:=zA G.out.own
   subst dB
   have e0:w6.cell? ⟨Q,0,none⟩=some (.slice al i cl):=cell_of_row _ _ _ _ 104 _ G.out.row
   have e1:w6.cell? ⟨Q,1,none⟩=some (.slice a1 (i+1) c1):=cell_of_row _ _ _ _ 104 _ G.out.row
   have e2:w6.cell? ⟨Q,2,none⟩=some (.slice a2 (i+2) c2):=cell_of_row _ _ _ _ 104 _ G.out.row
   have e3:w6.cell? ⟨Q,3,none⟩=some (.slice a3 (i+3) c3):=cell_of_row _ _ _ _ 104 _ G.out.row
   have e4:w6.cell? ⟨Q,4,none⟩=some (.string m):=cell_of_row _ _ _ _ 104 _ G.out.row
   have p0:w6.cell? ⟨B,4,none⟩=some (.slice av D.O.length cv):=cell_of_row _ _ _ _ 33 _ G.out.hall
   have p1:w8.cell? ⟨B,4,none⟩=some (.slice av D.O.length cv):=cell_of_row _ _ _ _ 33 _ aU
   have p2:w8.frozen? ⟨B,4,none⟩=false:=frozen_of_row _ _ _ _ 33 aU
   have pz:(w6.alloc (.cells #[.slice al i cl,.slice a1 (i+1) c1,.slice a2 (i+2) c2,.slice a3 (i+3) c3,.string m] 104)).cell? ⟨B,4,none⟩=some (.slice av D.O.length cv):=by rw[World.cell?_alloc_lt _ _ _ (block_lt_of_cell p0)];exact p0
   have cZ:Hid _:=cE
   have bM:Hid (zLD base B l0 lo D (.slice al i cl) w (w8.setCell ⟨B,4,none⟩ (.slice a8 (D.O.length+1) c8))):=by
    have hK:=K4.out.trans b9
    have dC:w.heap.size≤(w8.setCell ⟨B,4,none⟩ (.slice a8 (D.O.length+1) c8)).heap.size:=(K5.out.trans aQ).size
    have aD:∀(j:Nat) (cs:Array Value) (t:TypeId),w.heap[j]? =some (.cells cs t (0,0))→t≠33→t≠104→t≠149→(w8.setCell ⟨B,4,none⟩ (.slice a8 (D.O.length+1) c8)).heap[j]? =some (.cells cs t (0,0)):=fun j cs t J aT h5 hE=>hK j cs t J aT h5 (fun e=>by
     obtain⟨cur,bW⟩:=zB HO.out j e
     exact zE J bW hE rfl)
    have Z:∀(q:Nat) (cur:Array Value) (ty:TypeId),D.has q→w.heap[q]? =some (.cells cur ty (0,0))→ty≠33→ty≠104→(w8.setCell ⟨B,4,none⟩ (.slice a8 (D.O.length+1) c8)).heap[q]? =w.heap[q]? :=fun q cur ty F hc aT h5=>by
     rw[hK q cur ty hc aT h5 (fun e=>HX.out q e F),hc]
    have aM:∀q,(base≤q∧q<w.heap.size)→base≤q∧q<(w8.setCell ⟨B,4,none⟩ (.slice a8 (D.O.length+1) c8)).heap.size:=fun q F=>⟨F.1,Nat.lt_of_lt_of_le F.2 dC⟩
    obtain⟨g2,g3,g4,g5⟩:=bP.out
    have d6:∀q,(⟨.slice al i cl,.slice a1 (i+1) c1,.slice a2 (i+2) c2,.slice a3 (i+3) c3,.string m⟩:Ent).has q→(Value.slice al i cl).ownBlock=some q∨w.heap.size≤q:=fun q F=>by
     rcases b7 q F with h|h
     ·exact .inl h
     ·exact .inr (Nat.le_trans K5.out.size h)
    refine⟨⟨.slice al i cl,.slice a1 (i+1) c1,.slice a2 (i+2) c2,.slice a3 (i+3) c3,.string m⟩,⟨⟨vT,vI,(.slice a8 (D.O.length+1) c8),vE,?_,zF g2 (fun j cs _ J=>aD j cs 99 J (by decide) (by decide) (by decide)),zF g3 (fun j cs _ J=>aD j cs 101 J (by decide) (by decide) (by decide)),by rw[List.length_append];exact b2,zF g5 (fun j cs _ J=>aD j cs 107 J (by decide) (by decide) (by decide))⟩,fun e he=> ?_,fun e he=> ?_,fun e he=> ?_,fun e he=> ?_⟩,d6,hK,K5.out.trans aQ⟩
    ·rw[show (((D.n+1:Nat)):Int)=(D.n:Int)+1 by omega]
     exact b1
    ·obtain⟨a9,U,c9⟩:=HH.out.T e he
     exact⟨a9.kept (fun q cur F hc=>Z q cur 9 (.inl ⟨e,he,F⟩) hc (by decide) (by decide)),U,fun q F=>aM q (c9 q F)⟩
    ·obtain⟨a9,U,c9⟩:=HH.out.I e he
     exact⟨a9.kept (fun q cur F hc=>Z q cur 3 (.inr (.inl ⟨e,he,F⟩)) hc (by decide) (by decide)),U,fun q F=>aM q (c9 q F)⟩
    ·rcases List.mem_append.1 he with aK|aK
     ·obtain⟨a9,U,c9⟩:=HH.out.O e aK
      exact⟨a9.kept (fun q cur F hc=>Z q cur 149 (.inr (.inr (.inl ⟨e,aK,F⟩))) hc (by decide) (by decide)),U,fun q F=>aM q (c9 q F)⟩
     ·rw[List.mem_singleton.1 aK]
      exact⟨⟨zBY b6 rfl (by omega),b3,b4,b5⟩,⟨_,rfl⟩,fun q F=>⟨(by rcases b7 q F with h|h;exact zK b6 q h;exact Nat.le_trans (Nat.le_trans aV K5.out.size) h),b8 q F⟩⟩
    ·obtain⟨a9,U,c9⟩:=HH.out.E e he
     exact⟨a9.kept (fun q cur F hc=>Z q cur 131 (.inr (.inr (.inr ⟨e,he,F⟩))) hc (by decide) (by decide)),U,fun q F=>aM q (c9 q F)⟩
   clear aU b1 b2 b3 b4 b5 b6 b7 b8 b9 aQ cE bY y0 y1 y2 aC z0 z1 z2
   go_region_law (refine zAF rfl (.tmp 58) (.tmp 60) 28 rfl _ _ _ (by simp[Act.eval]) (by simp[Act.eval]) _ cZ.out ?_)
   all_goals go_end0
   all_goals exact⟨rfl,bM.out⟩
end Go.Proofs.YtlopecgkiikdhaaGreatDoor
