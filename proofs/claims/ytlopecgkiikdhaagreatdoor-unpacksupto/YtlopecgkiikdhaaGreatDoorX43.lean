import Derived.Test.YtlopecgkiikdhaaGreatDoorX42
import Derived.Test.YtlopecgkiikdhaaGreatDoorX34
import Derived.Test.YtlopecgkiikdhaaGreatDoorX41
namespace Go.Proofs.YtlopecgkiikdhaaGreatDoor
open Go.RowKit
set_option maxRecDepth 100000
set_option maxHeartbeats 4000000
theorem ErrD3.at {n k p:Int}{v:Value}{w:World}(h:ErrD3 n k p (.returned v) w):ErrAt w v [(11,n),(10,0),(k,p)]:=by
 obtain⟨x,y,z,D,j,u,A⟩:=h
 cases D
 exact⟨x,_,rfl,j,y,_,rfl,u,z,_,rfl,A,rfl⟩
def opM (kt:Nat→Int)(rt:ByteArray)(L:Nat→ByteArray)(n:Nat):List (Int×Int):=
 if rt.size=0∨rt.size=32 then
  match OS.run kt rt 0 (zh L n) OS.new with
  | .error e=>[((e.1:Int),(e.2:Int))]
  | .ok _=>(11,(n:Int))::fsM (if n=0 then none else sdE kt rt (L 0))
 else [(9,0)]
theorem zH4 (kt:Nat→Int)(rt:ByteArray)(L:Nat→ByteArray)(n:Nat):(opM kt rt L n).length≤1000:=by
 unfold opM
 split
 ·split
  ·simp
  ·cases (if n=0 then none else sdE kt rt (L 0))<;>simp[fsM]
 ·simp
theorem zKe (kt:Nat→Int)(rt:ByteArray)(L:Nat→ByteArray):∀n,(RO.run kt rt 0 (zh L n) RO.new).fs=if n=0 then none else sdE kt rt (L 0)
 |0=>rfl
 |n+1=>by
  have u:=zKe kt rt L n
  rw[zg,RO.run_snoc,zi,Nat.zero_add,if_neg (by omega)]
  generalize RO.run kt rt 0 (zh L n) RO.new=r at u
  unfold RO.step
  cases hs:sdE kt rt (L n) with
  |some e=>
   show (if n=0 then some e else r.fs)=_
   by_cases j:n=0
   ·subst j;rw[if_pos rfl,hs]
   ·rw[if_neg j,u,if_neg j]
  |none=>
   have:r.fs=sdE kt rt (L 0):=by
    by_cases j:n=0
    ·subst j;rw[u,if_pos rfl,hs]
    ·rw[u,if_neg j]
   cases jnK r.hs (L n)<;>exact this
def zPe (kt:Nat→Int)(rt:ByteArray)(L:Nat→ByteArray)(n:Nat)(w:World)(e:Ending)(w':World):Prop:=Below w.heap.size w w'∧
 ((∃er,e=.returned (.tuple #[.pointer none,er])∧ErrAt w' er (opM kt rt L n)∧∀s t0,¬Opn kt rt L n s t0)∨∃v,e=.returned (.tuple #[.pointer (some ⟨v,0,none⟩),.nilIface])∧VNew kt rt L n w.heap.size v w')
theorem zOM (kt:Nat→Int)(rt:ByteArray)(L:Nat→ByteArray)(n:Nat)(v:Value)(w:World)(hG:Gd kt w)(hn:n≤10000000000000)(hL:∀i,i<n→(L i).size≤140737488351232)(hv:(n=0∧v=.slice none 0 0)∨∃b Q,v=.slice (some ⟨b,0,none⟩) n Q∧b<w.heap.size∧Cl w b n (tI L)):
 Calls Tryz.prog 7 #[v,.string rt] w fun e w'=>zPe kt rt L n w e w':=by
 have HS:Hid (Calls Tryz.prog 16 #[v,.string rt] w fun e w'=>Below w.heap.size w w'∧((∃z,e=.returned (.tuple #[.pointer none,.iface 150 (.pointer (some ⟨z,0,none⟩))])∧ErrAt w' (.iface 150 (.pointer (some ⟨z,0,none⟩))) (opM kt rt L n)∧∀s t0,¬Opn kt rt L n s t0)∨∃k s t0 g p q f un,e=.returned (.tuple #[.pointer (some ⟨k,0,none⟩),.nilIface])∧Opn kt rt L n s t0∧rdE kt t0=none∧(w.heap.size≤q∧w.heap.size≤f)∧VS kt w.heap.size k g p q f (RS.on t0).told un s.un s.rd s.bl (fun _=>false) (fun _=>0) (fun _=>.slice none 0 0) w')):=by
  unfold opM
  by_cases j:rt.size=0∨rt.size=32
  ·rw[if_pos j]
   rcases hv with ⟨rfl,rfl⟩|⟨b,Q,rfl,hb,hC⟩
   ·refine Calls.mono (zIe rt w j) ?_
    rintro e w' ⟨v,rfl,⟨z,J,F⟩,u⟩
    cases J
    refine⟨u,.inl ⟨z,rfl,?_,fun s t0 N=> ?_⟩⟩
    ·exact⟨z,.nilIface,rfl,F,rfl⟩
    ·obtain⟨_,h1,h2⟩:=N
     cases h1
     cases h2
   ·refine Calls.mono (zPQ kt rt L b n Q w hG hb hC hn hL j) ?_
    rintro e w' ⟨W,u⟩
    refine⟨u,?_⟩
    unfold OpD at W
    cases hr:OS.run kt rt 0 (zh L n) OS.new with
    |error ab=>
     obtain⟨a,b'⟩:=ab
     rw[hr]at W
     obtain⟨v,rfl,z,J,F⟩:=W
     cases J
     exact .inl ⟨z,rfl,⟨z,.nilIface,rfl,F,rfl⟩,fun s t0 N=>by have:=N.2.1;rw[hr]at this;cases this⟩
    |ok s=>
     rw[hr]at W
     rcases W with ⟨hd,v,rfl,h0,h1⟩|⟨hd,k,rfl,hI⟩
     ·have D:∀s' t0,¬Opn kt rt L n s' t0:=fun s' t0 N=>by have:=N.2.1;rw[hr]at this;cases this;have:=N.2.2;rw[hd]at this;cases this
      rcases Nat.eq_zero_or_pos n with A|A
      ·obtain⟨z,J,F⟩:=h0 A
       cases J
       subst A
       exact .inl ⟨z,rfl,⟨z,.nilIface,rfl,F,rfl⟩,D⟩
      ·have hb:=zCD hr A hd
       cases hs:sdE kt rt (L 0) with
       |none=>exact absurd hs hb
       |some kp=>
        have h3:=h1 A kp.1 kp.2 hs
        have h4:=ErrD3.at h3
        obtain⟨x,y,z,J,_⟩:=h3
        cases J
        refine .inl ⟨_,rfl,?_,D⟩
        show ErrAt _ _ ((11,(n:Int))::fsM (if n=0 then none else some kp))
        rw[if_neg (by omega)]
        exact h4
     ·obtain⟨un,a6,hc⟩:=hI
      rcases hc with ⟨e,_⟩|⟨t0,g,p,q,f,a2,G,aP,a5,a4,hS⟩
      ·exact absurd e hd
      ·exact .inr ⟨k,s,t0,g,p,q,f,un,rfl,⟨j,hr,a2⟩,G,⟨a5,a4⟩,hS.vs a6⟩
  ·rw[if_neg j]
   refine Calls.mono (zGt rt v w (fun e=>j (.inl e)) (fun e=>j (.inr e))) ?_
   rintro e w' ⟨z,rfl,J,u⟩
   exact⟨u,.inl ⟨z,rfl,⟨z,.nilIface,rfl,J,rfl⟩,fun s t0 N=>j N.1⟩⟩
 clear hG hn hL hv
 go_enter Tryz.func7,Tryz.ntmps7
 go_wp2_with fail
 refine Calls.mono HS.out ?_
 rintro e U ⟨u,⟨z,rfl,hE,D⟩|⟨k,s,t0,g,p,q,f,un,rfl,X,G,hq,hV⟩⟩
 ·have HB:Hid _:=u
  have HN:Hid _:=D
  have Z:Hid _:=hE
  clear u D hE
  go_wp2_with fail
  go_ret2
  exact⟨HB.out,.inl ⟨_,rfl,Z.out,HN.out⟩⟩
 ·have R:Below U.heap.size U (U.alloc (.cells (wC 0 k) 70)):=(Below.refl _ _).alloc (Nat.le_refl _) _
  have Z:Hid (VNew kt rt L n w.heap.size U.heap.size (U.alloc (.cells (wC 0 k) 70))):=⟨s,t0,k,g,p,q,f,un,X,G,u.size,hq,heap_alloc_new _ _,hV.below R⟩
  have HB:Hid (Below w.heap.size w (U.alloc (.cells (wC 0 k) 70))):=u.trans (R.mono u.size)
  clear u X G hq hV R
  go_wp2_with fail
  go_ret2
  exact⟨HB.out,.inr ⟨U.heap.size,rfl,Z.out⟩⟩
def RNo (kt:Nat→Int)(rt:ByteArray)(L:Nat→ByteArray)(n:Nat)(w:World)(e:Ending)(w':World):Prop:=
 ∃m,e=.returned (.tuple #[.pointer none,m])∧Below w.heap.size w w'∧Mk w' w.heap.size m (opM kt rt L n)
def zPd (kt:Nat→Int)(n:Nat)(t0:ByteArray)(s:OS)(w:World)(e:Ending)(w':World):Prop:=
 ∃v vH vU hp,e=.returned (.tuple #[.pointer (some ⟨v,0,none⟩),.slice none 0 0])∧Below w.heap.size w w'∧RV kt w v vH vU hp s.un w'∧RSet kt t0 (hp.map Prod.fst)∧(∀v,s.rd v=true↔∃x∈hp.map Prod.fst,(tT x).num=v)∧s.bl=blH (hp.map Prod.fst)∧s.un.length≤n∧hp.length≤n
theorem ROD.no {kt:Nat→Int}{rt:ByteArray}{L:Nat→ByteArray}{n:Nat}{w w':World}{e:Ending}(h:ROD kt rt L n w e w')(N:∀s t0,¬Opn kt rt L n s t0):RNo kt rt L n w e w':=by
 obtain⟨p,m,rfl,hb,G⟩:=h
 rcases G with ⟨U,R,rfl,j⟩|⟨A,G⟩
 ·refine⟨m,rfl,hb,?_⟩
  unfold opM
  rw[if_neg (by omega)]
  exact j
 ·rcases zIX kt rt (zh L n) 0 RO.new OS.new OEq.new with ⟨s,hs,Q⟩|⟨er,hs,F,J⟩
  ·rcases G with ⟨u,rfl,j⟩|⟨u,D,rfl,j⟩|⟨u,D,_⟩
   ·refine⟨m,rfl,hb,?_⟩
    rw[zKe]at j
    unfold opM
    rw[if_pos A,hs]
    exact j
   ·exact absurd Q.cl D
   ·exfalso
    cases J:(RO.run kt rt 0 (zh L n) RO.new).hs with
    |nil=>exact u J
    |cons t0 r=>exact N s t0 ⟨A,hs,by rw[Q.hd,J];rfl⟩
  ·rcases G with ⟨u,_⟩|⟨u,D,rfl,j⟩|⟨u,D,_⟩
   ·exact absurd u J
   ·refine⟨m,rfl,hb,?_⟩
    rw[F]at j
    unfold opM
    rw[if_pos A,hs]
    exact j
   ·rw[F]at D;cases D
theorem ROD.yes {kt:Nat→Int}{rt:ByteArray}{L:Nat→ByteArray}{n:Nat}{w w':World}{e:Ending}{s:OS}{t0:ByteArray}(h:ROD kt rt L n w e w')(U:Opn kt rt L n s t0):zPd kt n t0 s w e w':=by
 obtain⟨p,m,rfl,hb,F⟩:=h
 obtain⟨W,hs,hd⟩:=U
 rcases F with ⟨X,Q,_⟩|⟨_,F⟩
 ·omega
 ·rcases zIX kt rt (zh L n) 0 RO.new OS.new OEq.new with ⟨Z,j,A⟩|⟨er,j,_⟩
  ·rw[hs]at j
   cases j
   have u:=A.hd
   rw[hd]at u
   rcases F with ⟨G,_⟩|⟨_,J,_⟩|⟨G,J,rfl,v,vH,vU,hp,rfl,R,D⟩
   ·rw[G]at u;cases u
   ·exact absurd A.cl J
   ·refine⟨v,vH,vU,hp,rfl,hb,by rw[A.un];exact R,?_,?_,?_,?_,?_⟩
    ·rw[D]
     exact (RIn.run _ 0 _ (RIn.new kt)).set u.symm
    ·rw[D];exact A.rd
    ·rw[D];exact A.bl
    ·rw[A.un];exact zGF kt rt L n
    ·have N:=zFb kt rt L n
     rw[←D,List.length_map]at N
     exact N
  ·rw[hs]at j;cases j
theorem zLq:(Tryz.prog.info? 53).map (fun i=>(i.zero,i.size,i.bytes))=some (some (.agg #[.pointer none,.pointer none]),2,16):=by kernel_rfl
theorem VS.entB {kt:Nat→Int}{B k g p q f:Nat}{T:TT}{un:Value}{ul:List Nat}{rd:Nat→Bool}{bl:Nat→ByteArray}{dn:Nat→Bool}{W:Nat→Nat}{G:Nat→Value}{w:World}(h:VS kt B k g p q f T un ul rd bl dn W G w){j:Nat}(U:EntB g w j):B≤j:=by
 obtain⟨u,F,num,first,vB,Q,R⟩:=h.hd
 obtain⟨X,v,A,D,J⟩:=U
 rw[Q]at A
 simp only[Option.some.injEq,Obj.cells.injEq]at A
 rw[←A.1]at D
 have N:v=.slice u T.L.es.length F:=by
  have:(zBE T.root T.lst T.L.K T.L.M T.L.C T.L.V (.slice u T.L.es.length F) T.lv num first vB)[6]? =some (.slice u T.L.es.length F):=rfl
  rw[this]at D
  exact (Option.some.inj D).symm
 subst N
 exact zK R j J
theorem VS.outB {kt:Nat→Int}{B k g p q f:Nat}{T:TT}{un:Value}{ul:List Nat}{rd:Nat→Bool}{bl:Nat→ByteArray}{dn:Nat→Bool}{D:Nat→Nat}{u:Nat→Value}{w:World}(h:VS kt B k g p q f T un ul rd bl dn D u w){j:Nat}(A:zH8 un u dn T.L.ns j):B≤j:=by
 rcases A with e|⟨s,hs,hd,e⟩
 ·exact zK h.unO j e
 ·exact zK (h.fn s hs hd).2 j e
theorem VNew.still {kt:Nat→Int}{rt:ByteArray}{L:Nat→ByteArray}{n B v g1:Nat}{w w':World}(h:VNew kt rt L n B v w)(Z:g1<B)(hk:∀j,j≠g1→w'.heap[j]? =w.heap[j]?)(D:∃J,w.heap[g1]? =some (.cells J 9 (0,0))):VNew kt rt L n B v w':=by
 obtain⟨s,t0,k,g,p,q,f,un,N,Q,R,U,W,A⟩:=h
 obtain⟨u,D⟩:=D
 refine⟨s,t0,k,g,p,q,f,un,N,Q,R,U,(hk v (by omega)).trans W,VS.kz (t5:=99) (z:=some g1) A (fun j J t F _ _ X=> ?_) (.inl rfl) (fun j F=> ?_)⟩
 ·rw[hk j (fun e=>X (by rw[e]))];exact F
 ·have G:g1=j:=Option.some.inj F
  subst G
  refine⟨⟨u,9,D,by simp⟩,by omega,fun e=> ?_,fun e=> ?_⟩
  ·have:=A.outB e;omega
  ·have:=A.entB e;omega
theorem BkI.put0 {base B:Nat}{l0 lo:Value}{X:Bk}{w N:World}(h:BkI base B l0 lo X w)(hk:∀(j:Nat) (D:Array Value) (t:TypeId),w.heap[j]? =some (.cells D t (0,0))→t≠53→N.heap[j]? =some (.cells D t (0,0)))(W:w.heap.size≤N.heap.size)(R:Value):BkI base B R lo X (N.setCell ⟨B,0,none⟩ R):=by
 obtain⟨vT,vI,vO,vE,Z,h2,h3,h4,h5⟩:=h.row
 have U:=hk _ _ _ Z (by decide)
 have A:∀(j:Nat) (D:Array Value) (t:TypeId),w.heap[j]? =some (.cells D t (0,0))→t≠53→t≠33→(N.setCell ⟨B,0,none⟩ R).heap[j]? =some (.cells D t (0,0)):=fun j D t J a b=>by
  rw[zC _ _ _ _ _ (zE (hk j D t J a) U b)]
  exact hk j D t J a
 have F:w.heap.size≤(N.setCell ⟨B,0,none⟩ R).heap.size:=by rw[show (N.setCell ⟨B,0,none⟩ R).heap.size=N.heap.size by simp[World.setCell]];exact W
 refine⟨⟨vT,vI,vO,vE,?_,zF h2 (fun j D _ J=>A j D _ J (by decide) (by decide)),zF h3 (fun j D _ J=>A j D _ J (by decide) (by decide)),zF h4 (fun j D _ J=>A j D _ J (by decide) (by decide)),zF h5 (fun j D _ J=>A j D _ J (by decide) (by decide))⟩,fun e Q=> ?_,fun e Q=> ?_,fun e Q=> ?_,fun e Q=> ?_⟩
 ·have h6:=zH N B 0 R _ _ _ U
  simpa using h6
 ·obtain⟨a,b,c⟩:=h.T e Q
  exact⟨a.kept (fun q cur _ G=>by rw[A q cur 9 G (by decide) (by decide),G]),b,fun q u=>⟨(c q u).1,Nat.lt_of_lt_of_le (c q u).2 F⟩⟩
 ·obtain⟨a,b,c⟩:=h.I e Q
  exact⟨a.kept (fun q cur _ G=>by rw[A q cur 3 G (by decide) (by decide),G]),b,fun q u=>⟨(c q u).1,Nat.lt_of_lt_of_le (c q u).2 F⟩⟩
 ·obtain⟨a,b,c⟩:=h.O e Q
  exact⟨a.kept (fun q cur _ G=>by rw[A q cur 149 G (by decide) (by decide),G]),b,fun q u=>⟨(c q u).1,Nat.lt_of_lt_of_le (c q u).2 F⟩⟩
 ·obtain⟨a,b,c⟩:=h.E e Q
  exact⟨a.kept (fun q cur _ G=>by rw[A q cur 131 G (by decide) (by decide),G]),b,fun q u=>⟨(c q u).1,Nat.lt_of_lt_of_le (c q u).2 F⟩⟩
theorem HK.add {kt:Nat→Int}{base h:Nat}{U:Bool}{W:List Dr}{bk:Bk}{Z w:World}{d:Dr}(H0:HK kt base h U W bk noZ Z)(hb:Below Z.heap.size Z w)(a6:d.fit kt)(aK:d.at kt base noZ w)(a7:Z.heap.size≤d.v∧Z.heap.size≤d.q∧Z.heap.size≤d.f∧Z.heap.size≤d.C)(b3:W.length≤1000000):
 ∃a c Q G,w.cell? ⟨h,0,none⟩=some (.slice a W.length c)∧(Builtin.append_ #[25,25] 25 #[.slice a W.length c,.slice (some ⟨w.heap.size,0,none⟩) 1 1]).run Tryz.prog (w.alloc (.cells #[.pointer (some ⟨d.v,0,none⟩),.pointer (some ⟨d.y,0,none⟩)] 53))=.ok Q G∧(∃a2 c2,Q=.slice a2 (W.length+1) c2)∧(∃u,G.cell? ⟨h,0,none⟩=some u)∧G.frozen? ⟨h,0,none⟩=false∧G.cell? ⟨h,6,none⟩=some (.bool U)∧HK kt base h U (W++[d]) bk noZ (G.setCell ⟨h,0,none⟩ Q)∧Below base Z (G.setCell ⟨h,0,none⟩ Q):=by
 have H:=H0.low hb
 obtain⟨l0,hB,ho⟩:=H.book
 obtain⟨a,c,rfl⟩:=zA ho
 obtain⟨vT,vI,vO,vE,h1,_⟩:=hB.row
 obtain⟨w1,a1⟩:∃w1,w.alloc (.cells #[.pointer (some ⟨d.v,0,none⟩),.pointer (some ⟨d.y,0,none⟩)] 53)=w1:=⟨_,rfl⟩
 have F:Below w.heap.size w w1:=by rw[←a1];exact (Below.refl _ _).alloc (Nat.le_refl _) _
 have aB:w1.ownsRow w.heap.size 53 2 (.slice (some ⟨w.heap.size,0,none⟩) 1 1) 1 [.pointer (some ⟨d.v,0,none⟩),.pointer (some ⟨d.y,0,none⟩)]:=by
  rw[←a1]
  exact⟨rfl,.inr ⟨w.heap.size,1,#[.pointer (some ⟨d.v,0,none⟩),.pointer (some ⟨d.y,0,none⟩)],rfl,Nat.le_refl _,heap_alloc_new _ _,Nat.le_refl _,by unfold maxLen;omega,rfl,rfl⟩⟩
 have aO:=zD ho (fun q hq=>F.block q (zG ho q hq))
 obtain⟨i0,aM,z0,z1,z2⟩:=info_parts zLq
 obtain⟨Q,G,aE,aD,hg,aW⟩:=zV 25 Tryz.underlying25 aM z0 z1 z2 rfl (by decide) aO aB (by intro u hu;simp at hu;rcases hu with rfl|rfl<;>rfl) (by omega) (by omega) (Nat.le_trans H.bw F.size)
 have X:∀(j:Nat) (J:Array Value) (t:TypeId),w.heap[j]? =some (.cells J t (0,0))→t≠53→G.heap[j]? =some (.cells J t (0,0)):=fun j J t N ht=>by
  have a9:=(Array.getElem?_eq_some_iff.1 N).1
  rw[hg.block j (Nat.lt_of_lt_of_le a9 F.size) (fun e=>by
   obtain⟨cur,a5⟩:=zB ho j e.symm
   exact zE N a5 ht rfl),F.block j a9]
  exact N
 have aQ:w.heap.size≤G.heap.size:=Nat.le_trans F.size hg.size
 have R:=X _ _ _ h1 (by decide)
 have b4:(G.setCell ⟨h,0,none⟩ Q).heap.size=G.heap.size:=by simp[World.setCell]
 have a8:∀(j:Nat) (J:Array Value) (t:TypeId),w.heap[j]? =some (.cells J t (0,0))→t≠53→t≠33→(G.setCell ⟨h,0,none⟩ Q).heap[j]? =some (.cells J t (0,0)):=fun j J t N e1 e2=>by
  rw[zC _ _ _ _ _ (zE (X j J t N e1) R e2)]
  exact X j J t N e1
 have aA:Kz 53 none w (G.setCell ⟨h,0,none⟩ Q):=fun j J t N aH a4 _=>a8 j J t N a4 aH
 have D:Below base w (G.setCell ⟨h,0,none⟩ Q):=((F.mono H.bw).grown hg (Nat.le_trans H.bw F.size) (fun q hq=>zK ho q hq)).setCell (p:=⟨h,0,none⟩) H.lo _
 have aN:W.length+1=(W++[d]).length:=by simp
 refine⟨a,c,Q,G,cell_of_row _ _ _ _ 33 _ h1,by rw[a1];exact aE,zA aD,⟨_,cell_of_row _ _ _ _ 33 _ R⟩,frozen_of_row _ _ _ _ 33 R,cell_of_row _ _ _ _ 33 _ R,⟨H.lo,H.bs,Nat.le_trans H.bw D.size,⟨Q,hB.put0 X aQ Q,?_⟩,fun x A=> ?_,fun x A=> ?_,?_,fun j N x A=> ?_,H.glb.low H.bs D⟩,(hb.mono H0.bw).trans D⟩
 ·rw[←aN]
  have e:drV (W++[d])=drV W++[.pointer (some ⟨d.v,0,none⟩),.pointer (some ⟨d.y,0,none⟩)]:=by simp[drV]
  rw[e]
  exact zF aD (fun j J _ N=>by rw[zC _ _ _ _ _ (zE N R (by decide))];exact N)
 ·rcases List.mem_append.1 A with A|A
  ·exact H.fit x A
  ·rw[List.mem_singleton.1 A];exact a6
 ·have hz:∀j,(none:Option Nat)=some j→noZ j∧∃J t,w.heap[j]? =some (.cells J t (0,0))∧(t=3∨t=9∨t=131∨t=149):=fun j e=>by cases e
  rcases List.mem_append.1 A with A|A
  ·exact (H.here x A).kz aA (by decide) hz D.size
  ·rw[List.mem_singleton.1 A];exact aK.kz aA (by decide) hz D.size
 ·refine List.pairwise_append.2 ⟨H.ne,List.pairwise_singleton _ _,fun x A y hy=> ?_⟩
  rw[List.mem_singleton.1 hy]
  have hA:=H0.here x A
  obtain⟨dn,zs,bd,hV,_⟩:=hA.vs
  have l1:=hV.blR.lt
  have l2:=hV.fiR.lt
  have l3:=(Array.getElem?_eq_some_iff.1 hA.vl).1
  have l4:=hA.yl
  obtain⟨g1,g2,g3,g4⟩:=a7
  exact⟨by omega,by omega,by omega,fun j _ h2=>by omega,fun j h2 _=>by omega⟩
 ·rcases List.mem_append.1 A with A|A
  ·exact H.far j N x A
  ·rw[List.mem_singleton.1 A]
   obtain⟨b7,aJ,_⟩:=H0.book
   have:=(aJ.lt N).2
   obtain⟨g1,g2,g3,g4⟩:=a7
   exact⟨by omega,by omega,by omega⟩
theorem RawT.inn {w:World}{a:Option Addr}{n j:Nat}{L:Nat→ByteArray}(h:RawT w a n j L):In w a n L∧(a.isNone=true→n=0):=by
 rcases h with ⟨rfl,rfl,rfl⟩|⟨F,rfl,D⟩
 ·exact⟨fun i hi=>absurd hi (by omega),fun _=>rfl⟩
 ·exact⟨fun i hi=>by obtain⟨b,off,rfl,u,A⟩:=D i hi;exact⟨b,off,rfl,u,A⟩,fun e=>by cases e⟩
theorem RawT.low {w w':World}{a:Option Addr}{n j:Nat}{L:Nat→ByteArray}(h:RawT w a n j L)(hb:Below w.heap.size w w'):RawT w' a n j L:=by
 rcases h with h|⟨A,rfl,F⟩
 ·exact .inl h
 ·refine .inr ⟨A,rfl,fun i hi=> ?_⟩
  obtain⟨b,off,e,u,D⟩:=F i hi
  exact⟨b,off,e,Nat.lt_of_lt_of_le u hb.size,(hb.cell (p:=⟨b,off+i,none⟩) u).trans D⟩
theorem LentAt.low {w w':World}{x g1 g2 n:Nat}{nl:Bool}{L:Nat→ByteArray}(h:LentAt w x g1 g2 n nl L)(hb:Below w.heap.size w w'):LentAt w' x g1 g2 n nl L:=
 ⟨(hb.block _ (Array.getElem?_eq_some_iff.1 h.obj).1).trans h.obj,h.all.below hb h.all.lt,h.want.below hb h.want.lt,h.ne⟩
theorem HK.c6 {kt:Nat→Int}{base h:Nat}{j:Bool}{A:List Dr}{u:Bk}{Z:Nat→Prop}{w:World}(H:HK kt base h j A u Z w):w.cell? ⟨h,6,none⟩=some (.bool j):=by
 obtain⟨G,F,_⟩:=H.book
 obtain⟨N,vI,J,vE,D,_⟩:=F.row
 exact cell_of_row _ _ _ _ 33 _ D
theorem zKk (kt:Nat→Int)(base h:Nat)(D:Bool)(ds:List Dr)(bk:Bk)(rt:ByteArray)(L:Nat→ByteArray)(a:Option Addr)(n F:Nat)(w:World)(H:HK kt base h D ds bk noZ w)(hQ:D=true→∀(er:Value) (l:List (Int×Int)) (X:World),Ge X→ErrAt X er l→l.length≤1000→Calls Tryz.prog 12 #[er] X fun e w'=>e=.returned (.bool true)∧Below X.heap.size X w')(hn:n≤100000000)(hL:∀i,i<n→(L i).size≤140737488351232)(hR:RawT w a n F L)(cN:ds.length≤1000000):
 Calls Tryz.prog 4 #[.pointer (some ⟨h,0,none⟩),.slice a n F,.string rt] w fun e w'=>e=.returned (.bool true)∧Below base w w'∧∃aR,HK kt base h D aR bk noZ w'∧(aR=ds∨∃d,aR=ds++[d]):=by
 obtain⟨hI,bF⟩:=hR.inn
 have b3:Hid (Calls Tryz.prog 6 #[.slice a n F] w fun e w'=>∃g1 g2,e=.returned (.pointer (some ⟨w.heap.size,0,none⟩))∧w.heap.size<g1∧w.heap.size<g2∧LentAt w' w.heap.size g1 g2 n a.isNone L∧Below w.heap.size w w'):=zJi L a n F w (by omega) hI
 have HH:Hid _:=H
 have HR:Hid (RawT w a n F L):=hR
 have HL:Hid _:=hL
 have HQ:Hid _:=hQ
 have cF:Hid _:=bF
 obtain⟨x,hx⟩:∃x,w.heap.size=x:=⟨_,rfl⟩
 have HX:Hid (w.heap.size=x):=hx
 rw[hx]at b3
 clear H hR hL hQ hI bF
 go_enter Tryz.func4,Tryz.ntmps4
 go_wp2_with fail
 refine Calls.mono b3.out ?_
 rintro e w1 ⟨g1,g2,rfl,cQ,dK,aS,bB⟩
 have cE:Hid (Calls Tryz.prog 8 #[.pointer (some ⟨x,0,none⟩)] w1 fun e w'=>∃v,e=.returned v∧(∃q,w'=w1.drewN q)∧((v=.slice none 0 0∧n=0)∨v=.slice (some ⟨g1,0,none⟩) n (n+8))):=zJj L x g1 g2 n a.isNone w1 (by omega) aS cF.out
 have cD:Hid _:=aS
 have aX:Hid (Below w.heap.size w w1):=by rw[HX.out];exact bB
 clear aS bB
 go_wp2_with fail
 refine Calls.mono cE.out ?_
 rintro e w2 ⟨v,rfl,⟨q,bQ⟩,hv⟩
 have aT:Below w1.heap.size w1 w2:=by rw[bQ];exact below_drewN (Below.refl _ _) q
 have R:Hid _:=cD.out.low aT
 have W:Hid _:=aX.out.trans (aT.mono aX.out.size)
 have cI:Hid (Calls Tryz.prog 7 #[v,.string rt] w2 fun e w'=>zPe kt rt L n w2 e w'):=zOM kt rt L n v w2 (HH.out.low W.out).glb.gd (by omega) HL.out (by
  rcases hv with ⟨e1,e2⟩|e1
  ·exact .inl ⟨e2,e1⟩
  ·refine .inr ⟨g1,_,e1,R.out.all.lt,fun i hi=> ?_⟩
   have h3:=R.out.all.cell i (by omega)
   rw[h3]
   show some (Value.string (if i<n then L i else zCg))=_
   rw[if_pos hi]
   rfl)
 clear bQ aT hv
 go_wp2_with fail
 refine Calls.mono cI.out ?_
 rintro e w3 ⟨aU,hc⟩
 have aY:Hid _:=W.out.trans (aU.mono W.out.size)
 have aG:Hid _:=R.out.low aU
 have h9:∃cs,w3.heap[g1]? =some (.cells cs 9 (0,0)):=⟨_,aG.out.all⟩
 have c8:Hid (g1<w2.heap.size):=R.out.all.lt
 have cX:Hid (x≤w2.heap.size):=by rw[←HX.out];exact W.out.size
 have b4:Hid (Calls Tryz.prog 9 #[.pointer (some ⟨x,0,none⟩)] w3 fun e w'=>e=.returned (.bool true)∧Below x w3 w'∧∀q,q≠g1→w'.heap[q]? =w3.heap[q]?):=zIg L x g1 g2 n x a.isNone w3 (by omega) aG.out (Nat.le_of_lt cQ) (by omega)
 have H9:Hid _:=h9
 clear aU h9
 rcases hc with ⟨er,rfl,hE,bG⟩|⟨v,rfl,b9⟩
 ·have HE:Hid _:=hE
  have cG:Hid _:=bG
  clear hE bG
  go_wp2_with fail
  refine Calls.mono b4.out ?_
  rintro e U ⟨rfl,aA,aB⟩
  have G:Below w.heap.size w U:=aY.out.trans (by rw[HX.out];exact aA)
  have bY:Hid (ErrAt U er (opM kt rt L n)):=ErrAt.kept (fun e cs he=>aB e (fun e1=>by
   obtain⟨dB,h9⟩:=H9.out
   subst e1
   exact zE he h9 (by decide) rfl)) HE.out
  have aN:Hid (Calls Tryz.prog 10 #[.slice a n F,.string rt] U fun e w'=>RNo kt rt L n U e w'):=(zN4 kt rt L a n F U (HH.out.low G).glb.gr hn HL.out (HR.out.low G)).mono fun e w' h=>h.no cG.out
  have a4:Hid _:=G
  clear aA aB G
  go_wp2_with fail
  refine Calls.mono aN.out ?_
  rintro e N ⟨m,rfl,J,hm⟩
  have Q:Below w.heap.size w N:=a4.out.trans (J.mono a4.out.size)
  have b1:Hid (ErrAt N er (opM kt rt L n)):=bY.out.below J
  have aO:Hid (Calls Tryz.prog 11 #[er,m] N fun ev w'=>ev=.returned (.bool true)∧Below N.heap.size N w'):=zCd (opM kt rt L n) er m U.heap.size N (HH.out.low Q).glb.ge.err b1.out hm (zH4 kt rt L n)
  have a5:Hid _:=Q
  clear J Q hm
  go_wp2_with fail
  refine Calls.mono aO.out ?_
  rintro e w6 ⟨rfl,Z⟩
  have aD:Hid _:=a5.out.trans (Z.mono a5.out.size)
  have bZ:Hid _:=b1.out.below Z
  have aK:Hid _:=HH.out.low aD.out
  have c6:=aK.out.c6
  cases D with
  |false=>
   go_wp2_with fail
   go_ret
   exact⟨rfl,aD.out.mono HH.out.bw,ds,aK.out,.inl rfl⟩
  |true=>
   have aL:Hid _:=HQ.out rfl er (opM kt rt L n) w6 aK.out.glb.ge bZ.out (zH4 kt rt L n)
   go_wp2_with fail
   refine Calls.mono aL.out ?_
   rintro e w7 ⟨rfl,cM⟩
   have aZ:Hid _:=aD.out.trans (cM.mono aD.out.size)
   have cA:Hid _:=HH.out.low aZ.out
   go_wp2_with fail
   go_ret
   exact⟨rfl,aZ.out.mono HH.out.bw,ds,cA.out,.inl rfl⟩
 ·have cH:Hid (VNew kt rt L n w2.heap.size v w3):=b9
  clear b9
  go_wp2_with fail
  refine Calls.mono b4.out ?_
  rintro e U ⟨rfl,aA,aB⟩
  have G:Below w.heap.size w U:=aY.out.trans (by rw[HX.out];exact aA)
  have bA:VNew kt rt L n w2.heap.size v U:=cH.out.still c8.out aB H9.out
  obtain⟨s,t0,k,g,p,q',f,un,bH,cS,bM,bJ,bO,bP⟩:=bA
  have aN:Hid (Calls Tryz.prog 10 #[.slice a n F,.string rt] U fun e w'=>zPd kt n t0 s U e w'):=(zN4 kt rt L a n F U (HH.out.low G).glb.gr hn HL.out (HR.out.low G)).mono fun e w' h=>h.yes bH
  have aE:Hid _:=bO
  have aQ:Hid _:=bP
  have aP:Hid _:=bM
  have aM:Hid _:=bJ
  have a4:Hid _:=G
  clear aA aB G bH cS bM bJ bO bP
  go_wp2_with fail
  refine Calls.mono aN.out ?_
  rintro e N ⟨y,vH,vU,hp,rfl,J,b7,aJ,bK,bD,bL,bE⟩
  have Q:Below w.heap.size w N:=a4.out.trans (J.mono a4.out.size)
  have aO:Hid (Calls Tryz.prog 11 #[.nilIface,.slice none 0 0] N fun ev w'=>ev=.returned (.bool true)∧Below N.heap.size N w'):=zCd [] .nilIface (.slice none 0 0) 0 N (HH.out.low Q).glb.ge.err rfl zMN (by simp)
  obtain⟨d,hd⟩:∃d:Dr,d={ B:=w2.heap.size,v:=v,k:=k,g:=g,p:=p,q:=q',f:=f,un:=un,ul:=s.un,rd:=s.rd,C:=U.heap.size,y:=y,vH:=vH,vU:=vU,hp:=hp,t0:=t0,Y:=N }:=⟨_,rfl⟩
  have b2:Hid (d.fit kt):=by rw[hd];exact⟨aJ,bK,Nat.le_trans bL hn,Nat.le_trans bE hn,b7.rb⟩
  have A:base≤w2.heap.size:=Nat.le_trans HH.out.bw W.out.size
  have aF:w2.heap.size≤U.heap.size:=Nat.le_trans aP.out (Nat.le_of_lt (Array.getElem?_eq_some_iff.1 aE.out).1)
  have bW:Hid (d.at kt base noZ N):=by
   have hA:d.at kt base noZ N:=by
    subst hd
    exact⟨(J.block _ (Array.getElem?_eq_some_iff.1 aE.out).1).trans aE.out,⟨_,_,_,(by show VS kt w2.heap.size k g p q' f (tT t0) un s.un s.rd (blH (hp.map Prod.fst)) _ _ _ N;rw[←bD];exact aQ.out.below J),fun j hj=>hj.elim⟩,fun j hj=>hj.elim,⟨A,Nat.le_trans A aP.out,Nat.le_trans A aM.out.1,Nat.le_trans A aM.out.2,Nat.le_trans A aF⟩,Nat.le_trans aF J.size,⟨(Array.getElem?_eq_some_iff.1 aE.out).1,aQ.out.blR.lt,aQ.out.fiR.lt⟩,fun j cs t _ h _=>h,Nat.le_refl _⟩
   exact hA
  have c9:Hid (w.heap.size≤d.v∧w.heap.size≤d.q∧w.heap.size≤d.f∧w.heap.size≤d.C):=by
   have h0:=W.out.size
   have h1:=aP.out
   have h2:=aM.out
   rw[hd]
   exact⟨Nat.le_trans h0 h1,Nat.le_trans h0 h2.1,Nat.le_trans h0 h2.2,Nat.le_trans h0 aF⟩
  have cO:d.v=v:=by rw[hd]
  have cP:d.y=y:=by rw[hd]
  have a5:Hid _:=Q
  clear J Q b7 aJ bK bD bL bE A aF
  go_wp2_with fail
  refine Calls.mono aO.out ?_
  rintro e w6 ⟨rfl,Z⟩
  obtain⟨a6,c6,v',w7,dH,aI,⟨a2,c2,rfl⟩,⟨u,hu⟩,dJ,dL,b6,aH⟩:=HK.add HH.out (a5.out.trans (Z.mono a5.out.size)) b2.out (bW.out.low Z) c9.out cN
  have a9:Hid _:=aI
  have a8:Hid _:=b6
  have b0:Hid _:=aH
  rw[cO,cP]at a9
  have dM:(w7.setCell ⟨h,0,none⟩ (.slice a2 (ds.length+1) c2)).cell? ⟨h,6,none⟩=some (.bool D):=a8.out.c6
  clear Z aI b6 aH hd
  cases D with
  |false=>
   go_wp2_with (at_builtin;refine zJ rfl (.tmp 53) (.tmp 57) 25 rfl _ _ _ (by simp[Act.eval]) (by simp[Act.eval]) _ a9.out ?_)
   go_ret
   exact⟨rfl,b0.out,ds++[d],a8.out,.inr ⟨d,rfl⟩⟩
  |true=>
   have aL:Hid _:=HQ.out rfl .nilIface [] (w7.setCell ⟨h,0,none⟩ (.slice a2 (ds.length+1) c2)) a8.out.glb.ge rfl (by simp)
   go_wp2_with (at_builtin;refine zJ rfl (.tmp 53) (.tmp 57) 25 rfl _ _ _ (by simp[Act.eval]) (by simp[Act.eval]) _ a9.out ?_)
   refine Calls.mono aL.out ?_
   rintro e w8 ⟨rfl,bC⟩
   have cB:Hid _:=a8.out.low bC
   have bX:Hid _:=b0.out.trans (bC.mono a8.out.bw)
   go_wp2_with fail
   go_ret
   exact⟨rfl,bX.out,ds++[d],cB.out,.inr ⟨d,rfl⟩⟩
end Go.Proofs.YtlopecgkiikdhaaGreatDoor
