import Derived.Test.YtlopecgkiikdhaaGreatDoorX21
namespace Go.Proofs.YtlopecgkiikdhaaGreatDoor
open Go.RowKit
set_option maxRecDepth 100000
set_option maxHeartbeats 1000000
structure LEq (a b:LT):Prop where
 K:b.K=a.K
 M:b.M=a.M
 C:b.C=a.C
 V:b.V=a.V
 es:b.es=a.es
theorem zJl {d:Nat}{a b:RS}(h:zG4 d a b)(Q:a.list.st.wrong=false)(hd:a.list.st.next≤a.next+d):LEq a.list b.list∧b.list.st.wrong=false:=by
 obtain⟨N,G⟩:∃x,a.word ⟨#[86,76,84,49]⟩=x:=⟨_,rfl⟩
 obtain⟨k,u⟩:∃x,N.num 1 255=x:=⟨_,rfl⟩
 obtain⟨m,A⟩:∃x,k.1.num 0 (255-(k.2:Int))=x:=⟨_,rfl⟩
 obtain⟨c,j⟩:∃x,m.1.num 1 64=x:=⟨_,rfl⟩
 obtain⟨v,F⟩:∃x,c.1.num 1 16=x:=⟨_,rfl⟩
 obtain⟨n,D⟩:∃x,v.1.num 0 16=x:=⟨_,rfl⟩
 have ha:a.list=⟨(RS.ents n.2 n.1 ⟨#[]⟩ 4096 []).1,k.2,m.2,c.2,v.2,(RS.ents n.2 n.1 ⟨#[]⟩ 4096 []).2⟩:=by
  unfold RS.list
  simp only[G,u,A,j,F,D]
 rw[ha]at Q hd ⊢
 have J:(RS.ents n.2 n.1 ⟨#[]⟩ 4096 []).1.wrong=false:=Q
 have aB:(RS.ents n.2 n.1 ⟨#[]⟩ 4096 []).1.next≤a.next+d:=hd
 have w6:n.1.wrong=false:=zBV _ _ _ _ _ J
 have w5:v.1.wrong=false:=(ze (show (v.1.num 0 16).1.wrong=false by rw[D];exact w6)).1
 have w4:c.1.wrong=false:=(ze (show (c.1.num 1 16).1.wrong=false by rw[F];exact w5)).1
 have w3:m.1.wrong=false:=(ze (show (m.1.num 1 64).1.wrong=false by rw[j];exact w4)).1
 have w2:k.1.wrong=false:=(ze (show (k.1.num 0 (255-(k.2:Int))).1.wrong=false by rw[A];exact w3)).1
 have w1:N.wrong=false:=(ze (show (N.num 1 255).1.wrong=false by rw[u];exact w2)).1
 have v0:=(zAR a ⟨#[86,76,84,49]⟩).2
 have v1:=(zk N 1 255).2
 have v2:=(zk k.1 0 (255-(k.2:Int))).2
 have v3:=(zk m.1 1 64).2
 have v4:=(zk c.1 1 16).2
 have v5:=(zk v.1 0 16).2
 have v6:=(zBq n.2 n.1 ⟨#[]⟩ 4096 []).2
 rw[G]at v0;rw[u]at v1;rw[A]at v2;rw[j]at v3;rw[F]at v4;rw[D]at v5
 obtain⟨p0,p1⟩:=zKN (t:=⟨#[86,76,84,49]⟩) h (by rw[G];exact w1) (by rw[G];omega)
 rw[G]at p0 p1
 obtain⟨k1,R,k3⟩:=zBA (lo:=1) (hi:=255) p0 (by rw[u];exact w2) (by rw[u];omega)
 rw[u]at k1 R k3
 obtain⟨U,W,m3⟩:=zBA (lo:=0) (hi:=255-(k.2:Int)) R (by rw[A];exact w3) (by rw[A];omega)
 rw[A]at U W m3
 obtain⟨c1,c2,c3⟩:=zBA (lo:=1) (hi:=64) W (by rw[j];exact w4) (by rw[j];omega)
 rw[j]at c1 c2 c3
 obtain⟨q1,q2,q3⟩:=zBA (lo:=1) (hi:=16) c2 (by rw[F];exact w5) (by rw[F];omega)
 rw[F]at q1 q2 q3
 obtain⟨X,Z,n3⟩:=zBA (lo:=0) (hi:=16) q2 (by rw[D];exact w6) (by rw[D];omega)
 rw[D]at X Z n3
 obtain⟨z1,z2,_⟩:=zFW n.2 Z J (by omega)
 unfold RS.list
 simp only[k1,U,c1,q1,X]
 exact⟨⟨rfl,rfl,rfl,rfl,z1⟩,z2⟩
def RS.atL (t:ByteArray):RS:=(((RS.on t).word ⟨#[86,79,76,49]⟩).bytes 32).1
theorem zK3 (t:ByteArray):(RS.on t).told.L=(RS.atL t).list∧(RS.on t).told.lst=t.extract (RS.atL t).next (RS.atL t).list.st.next:=by
 have j:(RS.atL t).list.st.text=t:=((((zAR (RS.on t) ⟨#[86,79,76,49]⟩).trans (zZ _ 32))).trans (zAC (RS.atL t))).1
 unfold RS.told
 simp only[]
 split
 ·exact⟨rfl,by show (RS.atL t).list.st.text.extract (RS.atL t).next (RS.atL t).list.st.next=_;rw[j]⟩
 ·exact⟨rfl,by show (RS.atL t).list.st.text.extract (RS.atL t).next (RS.atL t).list.st.next=_;rw[j]⟩
def Nt (s:RS):Prop:=s.next≤s.text.size
theorem zCO {s:RS}(h:Nt s)(lo:Nat)(hi:Int):Nt (s.num lo hi).1:=by
 unfold RS.num
 split
 ·exact h
 ·split
  ·exact h
  ·show s.next+_≤s.text.size
   have j:=(zK8 (s.text.extract s.next s.text.size)).1
   rw[ByteArray.size_extract]at j
   have u:s.next≤s.text.size:=h
   omega
theorem zAt {s:RS}(h:Nt s)(n:Nat):Nt (s.bytes n).1:=by
 have j:s.next≤s.text.size:=h
 unfold RS.bytes
 split
 ·exact h
 ·split
  ·exact h
  ·show s.next+n≤s.text.size
   omega
theorem zDj {s:RS}(h:Nt s)(t:ByteArray):Nt (s.word t):=by
 unfold RS.word
 split
 ·exact zAt h _
 ·exact zAt h _
theorem zJT {s:RS}(h:Nt s)(b:ByteArray)(l:Int):Nt (s.entry b l).1:=by
 have j:Nt ((s.num 1 255).1.bytes (s.num 1 255).2).1:=zAt (zCO h 1 255) _
 have u:Nt (if leT ((s.num 1 255).1.bytes (s.num 1 255).2).2 b then ((s.num 1 255).1.bytes (s.num 1 255).2).1.refuse else ((s.num 1 255).1.bytes (s.num 1 255).2).1):=by
  split
  ·exact j
  ·exact j
 exact zCO u 0 l
theorem zHQ:∀(k:Nat) {s:RS} (_:Nt s) (nm:ByteArray) (j:Int) (u:List (ByteArray×Nat)),Nt (RS.ents k s nm j u).1
 |0,_,h,_,_,_=>h
 |k+1,_,h,nm,j,_=>zHQ k (zJT h nm j) _ _ _
theorem zEv {s:RS}(h:Nt s):Nt s.list.st:=by
 unfold RS.list
 exact zHQ _ (zCO (zCO (zCO (zCO (zCO (zDj h _) _ _) _ _) _ _) _ _) _ _) _ _ _
theorem zC3 {t:ByteArray}(h:(RS.on t).told.st.wrong=false):(RS.atL t).list.st.wrong=false:=by
 unfold RS.told at h
 simp only[]at h
 split at h
 ·exact (ze h).1
 ·rename_i hw
  have j:(((((RS.on t).word ⟨#[86,79,76,49]⟩).bytes 32).1).list.st.num 0 ((((((RS.on t).word ⟨#[86,79,76,49]⟩).bytes 32).1).list.V:Int)-1)).1.wrong=false:=by simpa using hw
  exact (ze j).1
theorem zCW {t u:ByteArray}(h:(RS.on t).told.st.wrong=false)(G:(RS.on u).told.st.wrong=false)(A:(RS.on t).told.lst=(RS.on u).told.lst):LEq (RS.on t).told.L (RS.on u).told.L:=by
 have R:=zC3 h
 have U:=zC3 G
 obtain⟨l1,W⟩:=zK3 t
 obtain⟨Q,X⟩:=zK3 u
 rw[W,X]at A
 rw[l1,Q]
 have y1:(RS.atL t).text=t:=((zAR (RS.on t) ⟨#[86,79,76,49]⟩).trans (zZ _ 32)).1
 have y2:(RS.atL u).text=u:=((zAR (RS.on u) ⟨#[86,79,76,49]⟩).trans (zZ _ 32)).1
 have n1:(RS.atL t).list.st.next≤t.size:=by
  have:=zEv (s:=RS.atL t) (zAt (zDj (Nat.zero_le _) _) _)
  unfold Nt at this
  rw[(zAC (RS.atL t)).1,y1]at this
  exact this
 have n2:(RS.atL u).list.st.next≤u.size:=by
  have:=zEv (s:=RS.atL u) (zAt (zDj (Nat.zero_le _) _) _)
  unfold Nt at this
  rw[(zAC (RS.atL u)).1,y2]at this
  exact this
 have Z:=(zAC (RS.atL t)).2
 have a2:=(zAC (RS.atL u)).2
 have D:=congrArg ByteArray.size A
 rw[ByteArray.size_extract,ByteArray.size_extract]at D
 refine (zJl (d:=(RS.atL t).list.st.next -(RS.atL t).next) ⟨?_,fun j hj=> ?_⟩ R (by omega)).1
 ·exact (zCK U).1
 ·refine⟨by rw[y1];omega,by rw[y2];omega,?_⟩
  have J:j<(t.extract (RS.atL t).next (RS.atL t).list.st.next).size:=by rw[ByteArray.size_extract];omega
  have N:j<(u.extract (RS.atL u).next (RS.atL u).list.st.next).size:=by rw[ByteArray.size_extract];omega
  have F:(t.extract (RS.atL t).next (RS.atL t).list.st.next)[j]=(u.extract (RS.atL u).next (RS.atL u).list.st.next)[j]:=by simp only[A]
  rw[ByteArray.getElem_extract,ByteArray.getElem_extract]at F
  simp only[y1,y2]
  exact F
theorem zBO (v:Value)(w:World):Calls Tryz.prog 44 #[.int .i64 0,v] w fun e w'=>zKP 11 0 e w'∧Below w.heap.size w w':=by
 go_enter Tryz.func44,Tryz.ntmps44
 go_wp2_with fail
 refine Calls.mono (zAk 11 0 w) ?_
 rintro e D ⟨z,rfl,u,j⟩
 have A:Hid _:=u
 have HB:Hid _:=j
 clear u j
 go_wp2_with fail
 go_ret
 exact⟨⟨z,rfl,A.out⟩,HB.out⟩
def ErrD3 (n k p:Int)(e:Ending)(w:World):Prop:=∃x y z,e=.returned (.iface 150 (.pointer (some ⟨x,0,none⟩)))∧w.heap[x]? =some (.cells #[.int .i64 11,.int .i64 n,.iface 150 (.pointer (some ⟨y,0,none⟩))] 152 (0,0))∧w.heap[y]? =some (.cells #[.int .i64 10,.int .i64 0,.iface 150 (.pointer (some ⟨z,0,none⟩))] 152 (0,0))∧w.heap[z]? =some (.cells #[.int .i64 k,.int .i64 p,.nilIface] 152 (0,0))
theorem zEB (n a:Nat)(k p:Int)(w:World)(Z:0<n)(N:w.heap[a]? =some (.cells #[.int .i64 k,.int .i64 p,.nilIface] 152 (0,0))):Calls Tryz.prog 44 #[.int .i64 n,.iface 150 (.pointer (some ⟨a,0,none⟩))] w fun e w'=>ErrD3 n k p e w'∧Below w.heap.size w w':=by
 have X:((n:Int) == 0)=false:=by simp;omega
 have F:Hid _:=N
 clear N
 go_enter Tryz.func44,Tryz.ntmps44
 go_wp2_with fail
 refine Calls.mono (zFs 10 0 ⟨a,0,none⟩ w) ?_
 rintro e W ⟨y,rfl,R,A⟩
 have G:Hid _:=R
 have j:Hid _:=A
 clear R A
 go_wp2_with fail
 refine Calls.mono (zFs 11 _ ⟨y,0,none⟩ W) ?_
 rintro e w2 ⟨x,rfl,Q,D⟩
 have U:Hid _:=Q
 have u:Hid _:=D
 clear Q D
 go_wp2_with fail
 go_ret
 have J:=j.out.trans (u.out.mono j.out.size)
 exact⟨⟨x,y,a,rfl,U.out,(u.out.block y (Array.getElem?_eq_some_iff.1 G.out).1).trans G.out,(J.block a (Array.getElem?_eq_some_iff.1 F.out).1).trans F.out⟩,J⟩
theorem zY {kt:Nat→Int}{t:ByteArray}(h:rdE kt t=none):t.size≤60000∧(tCk t).1.wrong=false∧(zX t).size≤(RS.on t).told.size:=by
 unfold rdE at h
 split at h
 ·cases h
 ·rename_i h0
  split at h
  ·cases h
  ·rename_i h1
   split at h
   ·split at h
    ·split at h
     ·cases h
     ·rename_i h2
      exact⟨by omega,by simpa using h1,by omega⟩
    ·cases h
   ·cases h
theorem zDh {kt:Nat→Int}{t:ByteArray}(h:rdE kt t=none):(RS.on t).told.num <(RS.on t).told.L.V∧(RS.on t).told.first+(zX t).size /(RS.on t).told.L.C≤(RS.on t).told.L.cnt:=by
 obtain⟨_,F,D⟩:=zY h
 have A:=zAz F
 refine⟨A.num,?_⟩
 obtain⟨u,j⟩:∃x,((RS.on t).told.num+1)*(RS.on t).told.L.cnt /(RS.on t).told.L.V=x:=⟨_,rfl⟩
 have G:(RS.on t).told.size=(u-(RS.on t).told.first)*(RS.on t).told.L.C:=by unfold TT.size;rw[j]
 have J:(RS.on t).told.first≤u:=by rw[←j];exact Nat.div_le_div_right (Nat.mul_le_mul_right _ (by omega))
 have N:u≤(RS.on t).told.L.cnt:=by
  rw[←j]
  exact Nat.le_trans (Nat.div_le_div_right (Nat.mul_le_mul_right _ A.num)) (by rw[Nat.mul_div_cancel_left _ A.v1];exact Nat.le_refl _)
 have Q:(zX t).size /(RS.on t).told.L.C≤u-(RS.on t).told.first:=by
  rw[G]at D
  exact Nat.le_trans (Nat.div_le_div_right D) (by rw[Nat.mul_div_cancel _ A.c1];exact Nat.le_refl _)
 omega
theorem LEq.cnt {a b:LT}(h:LEq a b):b.cnt=a.cnt:=by unfold LT.cnt;rw[h.K,h.M,h.C,h.es]
theorem zKM {kt:Nat→Int}{t j:ByteArray}(h:rdE kt t=none)(u:rdE kt j=none)(A:(RS.on t).told.lst=(RS.on j).told.lst):(RS.on j).told.num <(RS.on t).told.L.V∧(RS.on j).told.first+(zX j).size /(RS.on j).told.L.C≤(RS.on t).told.L.cnt:=by
 have hl:=zCW (zR (zY h).2.1) (zR (zY u).2.1) A
 have hf:=zDh u
 rw[hl.V,hl.cnt]at hf
 rw[hl.C]at hf ⊢
 exact hf
structure OS where
 un:List Nat
 hd:Option ByteArray
 rd:Nat→Bool
 bl:Nat→ByteArray
def OS.new:OS:=⟨[],none,noR,noT⟩
def OS.take (s:OS)(t:ByteArray):OS:={ s with rd:=zAx s.rd (RS.on t).told.num true,bl:=laid s.bl (RS.on t).told.first ((zX t).size /(RS.on t).told.L.C) (pc (zX t) (RS.on t).told.L.C) }
def OS.step (kt:Nat→Int)(rt:ByteArray)(i:Nat)(t:ByteArray)(s:OS):Except (Nat×Nat) OS:=
 if (sdE kt rt t).isSome then .ok { s with un:=s.un++[i] }
 else match s.hd with
  |none=>.ok { OS.take ⟨s.un,none,noR,noT⟩ t with hd:=some t }
  |some t0=>if (RS.on t0).told.root=(RS.on t).told.root∧(RS.on t0).told.lst=(RS.on t).told.lst∧(RS.on t0).told.lv=(RS.on t).told.lv then
    (if s.rd (RS.on t).told.num then .error (13,i) else .ok (s.take t))
   else .error (12,i)
def OS.run (kt:Nat→Int)(rt:ByteArray):Nat→List ByteArray→OS→Except (Nat×Nat) OS
 |_,[],s=>.ok s
 |i,t::ts,s=>match s.step kt rt i t with
  | .ok s'=>OS.run kt rt (i+1) ts s'
  | .error e=>.error e
def unV (l:List Nat):List Value:=l.map fun i=>.int .i64 (i:Nat)
def OI (kt:Nat→Int)(B k:Nat)(s:OS)(w:World):Prop:=∃un,w.ownsRow B 3 1 un s.un.length (unV s.un)∧((s.hd=none∧w.heap[k]? =some (.cells (stC (.pointer none) un (.slice none 0 0) (.slice none 0 0) (.slice none 0 0)) 114 (0,0)))∨∃t0 g p q f,s.hd=some t0∧rdE kt t0=none∧B≤p∧B≤q∧B≤f∧SS B k g p q f (RS.on t0).told un s.rd s.bl w)
def Keep (w w':World):Prop:=∀(z:Nat) (cs:Array Value),w.heap[z]? =some (.cells cs 152 (0,0))→w'.heap[z]? =some (.cells cs 152 (0,0))
theorem Keep.below {w w':World}(h:Below w.heap.size w w'):Keep w w':=fun z _ j=>(h.block z (Array.getElem?_eq_some_iff.1 j).1).trans j
theorem Keep.fr {S:Nat→Prop}{w w':World}(h:Fr S w w')(hs:∀(z:Nat) (j:Array Value),w.heap[z]? =some (.cells j 152 (0,0))→¬S z):Keep w w':=fun z j u=>(h.old z (Array.getElem?_eq_some_iff.1 u).1 (hs z j u)).trans u
theorem Fr.lowB {S:Nat→Prop}{w w':World}(h:Fr S w w')(B:Nat)(A:B≤w.heap.size)(hs:∀j,j<B→¬S j):Below B w w':=⟨h.calm.1,h.calm.2.1,h.calm.2.2,h.size,fun j u=>h.old j (Nat.lt_of_lt_of_le u A) (hs j u)⟩
theorem zE {w:World}{a b:Nat}{A j:Array Value}{t u:TypeId}(h:w.heap[a]? =some (.cells A t (0,0)))(D:w.heap[b]? =some (.cells j u (0,0)))(F:t≠u):a≠b:=fun e=>by
 rw[e,D]at h
 simp only[Option.some.injEq,Obj.cells.injEq]at h
 exact F h.2.1.symm
theorem zIb (kt:Nat→Int)(rt t:ByteArray)(B B2 k g2 i:Nat)(s:OS)(w:World)(hI:OI kt B k s w)(aJ:B≤k)(hB:B≤w.heap.size)(aB:sdE kt rt t=none)(G:rdE kt t=none)(hv:zG5 (RS.on t).told (zX t) B2 g2 w)(a4:B≤B2):
 Calls Tryz.prog 43 #[.pointer (some ⟨k,0,none⟩),.int .i64 i,.pointer (some ⟨g2,0,none⟩)] w fun e w'=>
  (∀R,s.step kt rt i t=.ok R→e=.returned .nilIface∧OI kt B k R w')∧(∀a b,s.step kt rt i t=.error (a,b)→zKP a b e w')∧Below B w w'∧Keep w w':=by
 obtain⟨aE,kE,qb,U,aN,aQ,hR,hO⟩:=hv
 obtain⟨un,D,hc⟩:=hI
 have a6:=zP hO a4
 have a8:=zAz (zY G).2.1
 have u:s.step kt rt i t=match s.hd with
  |none=>.ok { OS.take ⟨s.un,none,noR,noT⟩ t with hd:=some t }
  |some t0=>if (RS.on t0).told.root=(RS.on t).told.root∧(RS.on t0).told.lst=(RS.on t).told.lst∧(RS.on t0).told.lv=(RS.on t).told.lv then
    (if s.rd (RS.on t).told.num then .error (13,i) else .ok (s.take t))
   else .error (12,i):=by
  unfold OS.step
  rw[aB]
  rfl
 rcases hc with ⟨hd,hk⟩|⟨t0,g,p,q,f,hd,a1,aA,X,a9,hS⟩
 ·rw[hd]at u
  simp only[]at u
  refine Calls.mono (zPN B k g2 qb _ _ _ i (RS.on t).told un aE kE _ w hk U a6 hR a8 (zAQ _) (zDh G)) ?_
  rintro e w' ⟨rfl,p,q,f,hp,hq,hf,N,J⟩
  refine⟨fun R h=> ?_,fun a b h=> ?_,J.lowB B hB (fun j hj e=>by have e':j=k:=e;omega),Keep.fr J (fun z cs F=>zE F hk (by decide))⟩
  ·rw[u]at h
   cases h
   refine⟨rfl,un,zD D (fun z F=>J.old z (zG D z F) (fun e=> ?_)),.inr ⟨t,g2,p,q,f,rfl,G,by omega,by omega,by omega,N⟩⟩
   obtain⟨cur,A⟩:=zB D z F
   exact zE A hk (by decide) e
  ·rw[u]at h;cases h
 ·rw[hd]at u
  simp only[]at u
  refine Calls.mono (zPO B k g p q f g2 qb _ _ _ i (RS.on t0).told (RS.on t).told un _ s.rd s.bl _ w hS U hR (fun h=>zKM a1 G h.2.1)) ?_
  rintro e w' (⟨hn,hE,hb⟩|⟨hy,Q,hE,hb⟩|⟨hy,Q,rfl,N,J⟩)
  ·rw[if_neg hn]at u
   exact⟨fun R h=>(by rw[u]at h;cases h),fun a b h=>(by rw[u]at h;cases h;exact hE),hb.mono hB,Keep.below hb⟩
  ·rw[if_pos hy,if_pos Q]at u
   exact⟨fun R h=>(by rw[u]at h;cases h),fun a b h=>(by rw[u]at h;cases h;exact hE),hb.mono hB,Keep.below hb⟩
  ·rw[if_pos hy,if_neg (by rw[Q];simp)]at u
   have W:w.heap[p]? =_:=hS.rdR
   have Z:w.heap[q]? =_:=hS.blR
   refine⟨fun R h=> ?_,fun a b h=>(by rw[u]at h;cases h),J.lowB B hB (fun j hj e=>by rcases e with e|e<;>omega),Keep.fr J (fun z cs F e=>by rcases e with e|e;exact zE F W (by decide) e;exact zE F Z (by decide) e)⟩
   rw[u]at h
   cases h
   refine⟨rfl,un,zD D (fun z F=>J.old z (zG D z F) (fun e=> ?_)),.inr ⟨t0,g,p,q,f,hd,a1,aA,X,a9,N⟩⟩
   obtain⟨cur,A⟩:=zB D z F
   rcases e with e|e
   ·exact zE A W (by decide) e
   ·exact zE A Z (by decide) e
theorem SS.below {B k g p q f:Nat}{T:TT}{un:Value}{rd:Nat→Bool}{bl:Nat→ByteArray}{w w':World}(h:SS B k g p q f T un rd bl w)(hb:Below w.heap.size w w'):SS B k g p q f T un rd bl w':=by
 obtain⟨u,D,num,first,vB,j,A⟩:=h.hd
 exact⟨(hb.block k (Array.getElem?_eq_some_iff.1 h.row).1).trans h.row,⟨u,D,num,first,vB,(hb.block g (Array.getElem?_eq_some_iff.1 j).1).trans j,zI A hb⟩,Rw.below h.rdR hb (Rw.lt h.rdR),Rw.below h.blR hb (Rw.lt h.blR),Rw.below h.fiR hb (Rw.lt h.fiR)⟩
theorem OI.below {kt:Nat→Int}{B k:Nat}{s:OS}{w w':World}(h:OI kt B k s w)(hb:Below w.heap.size w w'):OI kt B k s w':=by
 obtain⟨un,u,D⟩:=h
 refine⟨un,zI u hb,?_⟩
 rcases D with ⟨hd,hk⟩|⟨t0,g,p,q,f,hd,G,hp,F,j,A⟩
 ·exact .inl ⟨hd,(hb.block k (Array.getElem?_eq_some_iff.1 hk).1).trans hk⟩
 ·exact .inr ⟨t0,g,p,q,f,hd,G,hp,F,j,A.below hb⟩
theorem run_snoc (kt:Nat→Int)(rt t:ByteArray):∀(l:List ByteArray) (i:Nat) (s j:OS),OS.run kt rt i l s=.ok j→OS.run kt rt i (l++[t]) s=j.step kt rt (i+l.length) t
 |[],i,s,j,h=>by
  cases h
  show (match s.step kt rt i t with| .ok s'=>OS.run kt rt (i+1) [] s'| .error e=>.error e)=s.step kt rt i t
  cases s.step kt rt i t<;>rfl
 |u::l,i,s,j,h=>by
  rw[List.cons_append,OS.run]
  rw[OS.run]at h
  cases hs:s.step kt rt i u with
  |error e=>rw[hs]at h;cases h
  |ok s'=>
   rw[hs]at h
   have:=run_snoc kt rt t l (i+1) s' j h
   simp only[]
   rw[this,List.length_cons,show i+1+l.length=i+(l.length+1) by omega]
theorem zIY (kt:Nat→Int)(rt:ByteArray)(r:List ByteArray):∀(l:List ByteArray) (i:Nat) (s:OS) (e:Nat×Nat),OS.run kt rt i l s=.error e→OS.run kt rt i (l++r) s=.error e
 |[],_,_,_,h=>by cases h
 |u::l,i,s,e,h=>by
  rw[List.cons_append,OS.run]
  rw[OS.run]at h
  cases hs:s.step kt rt i u with
  |error e'=>rw[hs]at h;exact h
  |ok s'=>
   rw[hs]at h
   exact zIY kt rt r l (i+1) s' e h
theorem OI.more {kt:Nat→Int}{B k i:Nat}{s:OS}{un F:Value}{w G:World}(X:w.ownsRow B 3 1 un s.un.length (unV s.un))
 (hc:(s.hd=none∧w.heap[k]? =some (.cells (stC (.pointer none) un (.slice none 0 0) (.slice none 0 0) (.slice none 0 0)) 114 (0,0)))∨∃t0 g p q f,s.hd=some t0∧rdE kt t0=none∧B≤p∧B≤q∧B≤f∧SS B k g p q f (RS.on t0).told un s.rd s.bl w)
 (hO:G.ownsRow B 3 1 F (s.un.length+1) (unV s.un++[.int .i64 (i:Nat)])) (Q:∀j,j<w.heap.size→un.ownBlock≠some j→G.heap[j]? =w.heap[j]?):OI kt B k { s with un:=s.un++[i] } (G.setCell ⟨k,1,none⟩ F):=by
 have U:∀{j:Nat} {D:Array Value} {t:TypeId},w.heap[j]? =some (.cells D t (0,0))→t≠3→G.heap[j]? =some (.cells D t (0,0)):=fun {j D t} hj ht=>(Q j (Array.getElem?_eq_some_iff.1 hj).1 (fun e=>by
  obtain⟨cur,u⟩:=zB X j e
  exact zE hj u ht rfl)).trans hj
 have N:∀{D:Array Value},G.heap[k]? =some (.cells D 114 (0,0))→(G.setCell ⟨k,1,none⟩ F).ownsRow B 3 1 F (s.un++[i]).length (unV (s.un++[i])):=fun {D} hk=>by
  rw[List.length_append,show unV (s.un++[i])=unV s.un++[.int .i64 (i:Nat)] by unfold unV;simp]
  exact zD hO (fun z Z=>zC _ _ _ _ _ (by
   obtain⟨cur,u⟩:=zB hO z Z
   exact zE u hk (by decide)))
 rcases hc with ⟨hd,hk⟩|⟨t0,g,p,q,f,hd,hr,hp,hq,W,J⟩
 ·have A:=U hk (by decide)
  exact⟨F,N A,.inl ⟨hd,zH _ _ _ _ _ _ _ A⟩⟩
 ·have A:=U J.row (by decide)
  have R:∀{j:Nat} {D:Array Value} {t:TypeId},w.heap[j]? =some (.cells D t (0,0))→t≠3→t≠114→(G.setCell ⟨k,1,none⟩ F).heap[j]? =some (.cells D t (0,0)):=fun {j D t} hj h3 h224=>(zC _ _ _ _ _ (zE (U hj h3) A h224)).trans (U hj h3)
  obtain⟨aE,kE,num,first,vB,hg,ho⟩:=J.hd
  refine⟨F,N A,.inr ⟨t0,g,p,q,f,hd,hr,hp,hq,W,⟨zH _ _ _ _ _ _ _ A,⟨aE,kE,num,first,vB,R hg (by decide) (by decide),zD ho (fun z Z=> ?_)⟩,R J.rdR (by decide) (by decide),R J.blR (by decide) (by decide),R J.fiR (by decide) (by decide)⟩⟩⟩
  obtain⟨cur,u⟩:=zB ho z Z
  rw[R u (by decide) (by decide),u]
set_option maxHeartbeats 4000000
def zh (L:Nat→ByteArray)(n:Nat):List ByteArray:=(List.range n).map L
def FirstE (kt:Nat→Int)(rt:ByteArray)(L:Nat→ByteArray)(i:Nat)(v:Value)(w:World):Prop:=
 (0<i→∀k p,sdE kt rt (L 0)=some (k,p)→∃z:Nat,v=.iface 150 (.pointer (some ⟨z,0,none⟩))∧w.heap[z]? =some (.cells #[.int .i64 (k:Nat),.int .i64 (p:Nat),.nilIface] 152 (0,0)))∧(i=0∨sdE kt rt (L 0)=none→v=.nilIface)
def OpD (kt:Nat→Int)(rt:ByteArray)(L:Nat→ByteArray)(n:Nat)(B:Nat)(e:Ending)(w:World):Prop:=
 match OS.run kt rt 0 (zh L n) OS.new with
 | .error (a,b)=>∃v,e=.returned (.tuple #[.pointer none,v])∧zKP a b (.returned v) w
 | .ok s=>(s.hd=none∧∃v,e=.returned (.tuple #[.pointer none,v])∧(n=0→zKP 11 0 (.returned v) w)∧(0<n→∀k p,sdE kt rt (L 0)=some (k,p)→ErrD3 n k p (.returned v) w))∨(s.hd≠none∧∃k,e=.returned (.tuple #[.pointer (some ⟨k,0,none⟩),.nilIface])∧OI kt B k s w)
theorem zg (L:Nat→ByteArray)(i:Nat):zh L (i+1)=zh L i++[L i]:=by unfold zh;rw[List.range_succ,List.map_append];rfl
theorem zi (L:Nat→ByteArray)(i:Nat):(zh L i).length=i:=by unfold zh;simp
theorem zBb (L:Nat→ByteArray)(m:Nat):∀n,m≤n→∃r,zh L n=zh L m++r
 |0,h=>⟨[],by have:m=0:=by omega
              subst this;simp⟩
 |n+1,h=>by
  by_cases e:m=n+1
  ·exact⟨[],by rw[e];simp⟩
  ·obtain⟨r,j⟩:=zBb L m n (by omega)
   exact⟨r++[L n],by rw[zg,j,List.append_assoc]⟩
theorem FirstE.good {kt:Nat→Int}{rt:ByteArray}{L:Nat→ByteArray}{i:Nat}{v:Value}{w w':World}(h:FirstE kt rt L i v w)(hs:sdE kt rt (L i)=none)(hk:Keep w w'):FirstE kt rt L (i+1) v w':=by
 refine⟨fun _ k p j=> ?_,fun A=> ?_⟩
 ·by_cases u:0<i
  ·obtain⟨z,e,D⟩:=h.1 u k p j
   exact⟨z,e,hk z _ D⟩
  ·have:i=0:=by omega
   subst this
   rw[hs]at j;cases j
 ·rcases A with e|e
  ·exact absurd e (by omega)
  ·exact h.2 (.inr e)
theorem FirstE.bad {kt:Nat→Int}{rt:ByteArray}{L:Nat→ByteArray}{i:Nat}{v:Value}{w w':World}(h:FirstE kt rt L i v w)(u:0<i)(hk:Keep w w'):FirstE kt rt L (i+1) v w':=by
 refine⟨fun _ k p j=> ?_,fun A=> ?_⟩
 ·obtain⟨z,e,D⟩:=h.1 u k p j
  exact⟨z,e,hk z _ D⟩
 ·rcases A with e|e
  ·exact absurd e (by omega)
  ·exact h.2 (.inr e)
theorem OpD.err {kt:Nat→Int}{rt:ByteArray}{L:Nat→ByteArray}{n B i a b:Nat}{s:OS}{v:Value}{w:World}(F:OS.run kt rt 0 (zh L i) OS.new=.ok s)(hs:s.step kt rt i (L i)=.error (a,b))(hi:i<n)(D:zKP a b (.returned v) w):OpD kt rt L n B (.returned (.tuple #[.pointer none,v])) w:=by
 obtain⟨r,j⟩:=zBb L (i+1) n (by omega)
 have u:=run_snoc kt rt (L i) _ 0 _ _ F
 rw[zi,Nat.zero_add,hs,←zg]at u
 have A:=zIY kt rt r _ 0 _ _ u
 rw[←j]at A
 unfold OpD
 rw[A]
 exact⟨v,rfl,D⟩
theorem zIf {kt:Nat→Int}{rt t:ByteArray}{i:Nat}{s j:OS}(h:s.step kt rt i t=.ok j)(u:s.hd≠none∨sdE kt rt t=none):j.hd≠none:=by
 unfold OS.step at h
 split at h
 ·rename_i hs
  cases h
  rcases u with e|e
  ·exact e
  ·rw[e]at hs;cases hs
 ·split at h
  ·cases h
   intro e;cases e
  ·rename_i t0 hd
   split at h
   ·split at h
    ·cases h
    ·cases h
     intro e
     rw[show (s.take t).hd=s.hd from rfl,hd]at e;cases e
   ·cases h
theorem zKz {kt:Nat→Int}{rt:ByteArray}:∀(l:List ByteArray) (i:Nat) (s j:OS),OS.run kt rt i l s=.ok j→s.hd≠none→j.hd≠none
 |[],_,_,_,h,hh=>by cases h;exact hh
 |t::l,i,s,j,h,hh=>by
  rw[OS.run]at h
  cases hs:s.step kt rt i t with
  |error e=>rw[hs]at h;cases h
  |ok s'=>rw[hs]at h;exact zKz l (i+1) s' j h (zIf hs (.inl hh))
theorem zCD {kt:Nat→Int}{rt:ByteArray}{L:Nat→ByteArray}{n:Nat}{s:OS}(h:OS.run kt rt 0 (zh L n) OS.new=.ok s)(u:0<n)(hd:s.hd=none):sdE kt rt (L 0)≠none:=fun e=>by
 obtain⟨r,j⟩:=zBb L 1 n (by omega)
 rw[j,show zh L 1++r=L 0::r from rfl,OS.run]at h
 cases hs:OS.new.step kt rt 0 (L 0) with
 |error e'=>rw[hs]at h;cases h
 |ok s'=>rw[hs]at h;exact zKz r 1 s' s h (zIf hs (.inr e)) hd
theorem zMj {kt:Nat→Int}{rt t:ByteArray}{i:Nat}{s j:OS}(h:s.step kt rt i t=.ok j):j.un.length≤s.un.length+1:=by
 unfold OS.step at h
 split at h
 ·cases h;simp
 ·split at h
  ·cases h;exact Nat.le_succ _
  ·split at h
   ·split at h
    ·cases h
    ·cases h;exact Nat.le_succ _
   ·cases h
theorem zIZ {kt:Nat→Int}{rt:ByteArray}:∀(l:List ByteArray) (i:Nat) (s j:OS),OS.run kt rt i l s=.ok j→j.un.length≤s.un.length+l.length
 |[],_,_,_,h=>by cases h;exact Nat.le_refl _
 |t::l,i,s,j,h=>by
  rw[OS.run]at h
  cases hs:s.step kt rt i t with
  |error e=>rw[hs]at h;cases h
  |ok s'=>
   rw[hs]at h
   have u:=zIZ l (i+1) s' j h
   have A:=zMj hs
   rw[List.length_cons]
   omega
theorem zPQ (kt:Nat→Int)(rt:ByteArray)(L:Nat→ByteArray)(b n cF:Nat)(w:World)(hG:Gd kt w)(hb:b<w.heap.size)(hC:Cl w b n (tI L))(hn:n≤10000000000000)(hL:∀i,i<n→(L i).size≤140737488351232)(cJ:rt.size=0∨rt.size=32):
 Calls Tryz.prog 16 #[.slice (some ⟨b,0,none⟩) n cF,.string rt] w fun e w'=>OpD kt rt L n w.heap.size e w'∧Below w.heap.size w w':=by
 have HG:Hid _:=hG
 have HC:Hid _:=hC
 have HL:Hid _:=hL
 clear hG hC hL
 go_enter Tryz.func16,Tryz.ntmps16
 rcases cJ with h0|cW
 ·have cV:(rt.size:Int)=0:=by omega
  obtain⟨k,hk⟩:∃k,w.heap.size=k:=⟨_,rfl⟩
  go_wp2_with fail
  go_loopw [7,26] (fun fv iv wr=>∃(i:Nat) (s:OS) (ff:Value),i≤n∧ff=fv∧iv=.int .i64 i∧OS.run kt rt 0 (zh L i) OS.new=.ok s∧OI kt w.heap.size k s wr∧FirstE kt rt L i ff wr∧Below w.heap.size w wr) (fun _ iv _=>n-(intOf iv).toNat)
  case atStart=>
   refine⟨0,OS.new,_,Nat.zero_le _,rfl,rfl,rfl,⟨.slice none 0 0,⟨rfl,.inl ⟨rfl,rfl⟩⟩,.inl ⟨rfl,by rw[←hk];exact heap_alloc_new _ _⟩⟩,⟨fun h=>absurd h (by omega),fun _=>rfl⟩,(Below.refl _ _).alloc (Nat.le_refl _) _⟩
  case round=>
   obtain⟨i,s,ff,hi,rfl,rfl,aI,b4,b3,hB⟩:=hrel
   have D:Hid _:=aI
   have aB:Hid (OI kt w.heap.size k s wr):=b4
   have aK:Hid (FirstE kt rt L i ff wr):=b3
   have HB:Hid _:=hB
   clear aI b4 b3 hB
   by_cases aR:i<n
   ·have bY:(i:Int)<(n:Int):=by omega
    have cb:wr.cell? ⟨b,i,none⟩=some (.string (L i)):=(HB.out.cell (p:=⟨b,i,none⟩) hb).trans (HC.out i aR)
    have aL:Hid _:=zOG kt (L i) rt wr (HG.out.below HB.out) (HL.out i aR)
    obtain⟨t,ht⟩:∃t,L i=t:=⟨_,rfl⟩
    rw[ht]at cb aL
    go_wp2_with fail
    refine Calls.mono aL.out ?_
    rintro e U ⟨b2,h1,h2⟩
    have N:Hid _:=b2
    clear b2 cb aL
    cases hE:sdE kt rt t with
    |some kp=>
     obtain⟨a,p⟩:=kp
     obtain⟨z,rfl,Z⟩:=h1 a p hE
     have HZ:Hid (U.heap[z]? =some (.cells #[.int .i64 (a:Nat),.int .i64 (p:Nat),.nilIface] 152 (0,0))):=Z
     clear h1 h2 Z
     have cK:s.un.length≤i:=by have h1:=zIZ _ _ _ _ D.out;rw[zi]at h1;have h2:OS.new.un.length=0:=rfl;omega
     obtain⟨un,a9,hc⟩:=aB.out.below N.out
     obtain⟨vh,aV,aN,aP,X⟩:∃vh aV aN aP,U.heap[k]? =some (.cells (stC vh un aV aN aP) 114 (0,0)):=by
      rcases hc with ⟨_,h⟩|⟨t0,g,p,q,f,_,_,_,_,_,hS⟩
      ·exact⟨_,_,_,_,h⟩
      ·exact⟨_,_,_,_,hS.row⟩
     obtain⟨au,cu,rfl⟩:=zA a9
     have c1:U.cell? ⟨k,1,none⟩=some (.slice au s.un.length cu):=cell_of_row _ _ _ _ 114 _ X
     have a4:Hid _:=X
     have HU:Hid (U.ownsRow w.heap.size 3 1 (.slice au s.un.length cu) s.un.length (unV s.un)):=a9
     have aX:Hid _:=hc
     clear X a9 hc
     obtain⟨i0,b6,z0,z1,z2⟩:∃i0,Tryz.prog.info? 3=some i0∧i0.zero=some (.int .i64 0)∧i0.size=1∧i0.bytes=8:=by
      have h:=zBW
      cases hi:Tryz.prog.info? 3 with
      |none=>rw[hi]at h;cases h
      |some i=>rw[hi]at h;simp at h;exact⟨i,rfl,h.1,h.2.1,h.2.2⟩
     have a1:Hid (Below w.heap.size w U):=HB.out.trans (N.out.mono HB.out.size)
     have cL:w.heap.size≤U.heap.size:=a1.out.size
     have G:Hid (∀A:World,(U.alloc (.cells #[.int .i64 i] 3)).grownBy A (Value.slice au s.un.length cu).ownBlock→∀j,j<U.heap.size→(Value.slice au s.un.length cu).ownBlock≠some j→A.heap[j]? =U.heap[j]?):=fun A hG j hj bM=>by rw[hG.block j (by simp;omega) (fun e=>bM e.symm),heap_alloc_old _ _ hj]
     have aZ:Hid (k<U.heap.size∧(Value.slice au s.un.length cu).ownBlock≠some k):=⟨(Array.getElem?_eq_some_iff.1 a4.out).1,fun e=>by
      obtain⟨cur,J⟩:=zB HU.out k e
      exact zE a4.out J (by decide) rfl⟩
     have aM:Hid (s.step kt rt i t=.ok { s with un:=s.un++[i] }):=by
      show _=_
      unfold OS.step
      rw[hE]
      rfl
     have aC:Hid (OS.run kt rt 0 (zh L (i+1)) OS.new=.ok { s with un:=s.un++[i] }):=by
      show _=_
      rw[zg,run_snoc kt rt (L i) _ 0 _ _ D.out,zi,Nat.zero_add,ht]
      exact aM.out
     have aY:Hid (∀A:World,(U.alloc (.cells #[.int .i64 i] 3)).grownBy A (Value.slice au s.un.length cu).ownBlock→A.heap[k]? =some (.cells (stC vh (.slice au s.un.length cu) aV aN aP) 114 (0,0))):=fun A hG=>(G.out A hG k aZ.out.1 aZ.out.2).trans a4.out
     by_cases aE:i=0
     ·have b7:((i:Int) == 0)=true:=by simp;omega
      have aA:Hid (i=0):=aE
      clear aE
      go_wp2_with (at_builtin;refine wpList_append_own _ rfl (.tmp 46) (.tmp 48) 23 rfl w.heap.size 3 i0 (.int .i64 0) 1 8 Tryz.underlying23 b6 z0 z1 z2 rfl (by decide) (.slice au s.un.length cu) s.un.length (unV s.un) (by simp[Act.eval]) (HU.out.alloc _) ⟨U.heap.size,0,none⟩ 1 1 [.int .i64 i] (by simp[Act.eval]) rfl (cell_one_new _ _ _) (by intro u hu;simp at hu;subst hu;rfl) (by unfold maxLen;omega) (by omega) (by simp;omega) ?_;intro v2 A hO2 hG2 _;obtain⟨a2,k2,hv2⟩:=zA hO2;subst hv2;have R:=aY.out A hG2;have m1:A.cell? ⟨k,1,none⟩=some (.slice au s.un.length cu):=(cell_of_row _ _ _ _ 114 _ R);have m2:=frozen_of_row A k 1 _ 114 R;have a5:Hid _:=hO2;have Q:Hid _:=hG2;clear hO2 hG2 R)
      have a8:OI kt w.heap.size k { s with un:=s.un++[i] } (A.setCell ⟨k,1,none⟩ (.slice a2 (s.un.length+1) k2)):=OI.more HU.out aX.out a5.out (G.out A Q.out)
      have aQ:w.heap.size≤k:=Nat.le_of_eq hk
      have F:Below w.heap.size w (A.setCell ⟨k,1,none⟩ (.slice a2 (s.un.length+1) k2)):=Fr.toBelow ((((Fr.below a1.out).alloc (.cells #[.int .i64 i] 3)).grown Q.out (fun q hq=>.inr (zK HU.out q hq))).set (g:=k) (.inr aQ) _ _)
      have W:(A.setCell ⟨k,1,none⟩ (.slice a2 (s.un.length+1) k2)).heap[z]? =some (.cells #[.int .i64 (a:Nat),.int .i64 (p:Nat),.nilIface] 152 (0,0)):=by
       rw[zC _ _ _ _ _ (zE HZ.out a4.out (by decide)),G.out A Q.out z (Array.getElem?_eq_some_iff.1 HZ.out).1 (fun e=>by
        obtain⟨cur,J⟩:=zB HU.out z e
        exact zE HZ.out J (by decide) rfl)]
       exact HZ.out
      refine⟨⟨i+1,{ s with un:=s.un++[i] },_,by omega,rfl,by go_num,aC.out,a8,⟨fun _ k' p' h'=> ?_,fun bL=> ?_⟩,F⟩,?_⟩
      ·have e0:L 0=t:=by rw[←aA.out];exact ht
       rw[e0,hE]at h'
       cases h'
       exact⟨z,rfl,W⟩
      ·rcases bL with e|e
       ·exact absurd e (by omega)
       ·rw[show L 0=t by rw[←aA.out];exact ht,hE]at e
        cases e
      ·simp[intOf];omega
     ·have b7:((i:Int) == 0)=false:=by simp;omega
      have aA:Hid (0<i):=Nat.pos_of_ne_zero aE
      clear aE
      go_wp2_with (at_builtin;refine wpList_append_own _ rfl (.tmp 46) (.tmp 48) 23 rfl w.heap.size 3 i0 (.int .i64 0) 1 8 Tryz.underlying23 b6 z0 z1 z2 rfl (by decide) (.slice au s.un.length cu) s.un.length (unV s.un) (by simp[Act.eval]) (HU.out.alloc _) ⟨U.heap.size,0,none⟩ 1 1 [.int .i64 i] (by simp[Act.eval]) rfl (cell_one_new _ _ _) (by intro u hu;simp at hu;subst hu;rfl) (by unfold maxLen;omega) (by omega) (by simp;omega) ?_;intro v2 A hO2 hG2 _;obtain⟨a2,k2,hv2⟩:=zA hO2;subst hv2;have R:=aY.out A hG2;have m1:A.cell? ⟨k,1,none⟩=some (.slice au s.un.length cu):=(cell_of_row _ _ _ _ 114 _ R);have m2:=frozen_of_row A k 1 _ 114 R;have a5:Hid _:=hO2;have Q:Hid _:=hG2;clear hO2 hG2 R)
      have a8:OI kt w.heap.size k { s with un:=s.un++[i] } (A.setCell ⟨k,1,none⟩ (.slice a2 (s.un.length+1) k2)):=OI.more HU.out aX.out a5.out (G.out A Q.out)
      have aQ:w.heap.size≤k:=Nat.le_of_eq hk
      have F:Below w.heap.size w (A.setCell ⟨k,1,none⟩ (.slice a2 (s.un.length+1) k2)):=Fr.toBelow ((((Fr.below a1.out).alloc (.cells #[.int .i64 i] 3)).grown Q.out (fun q hq=>.inr (zK HU.out q hq))).set (g:=k) (.inr aQ) _ _)
      have W:Keep wr (A.setCell ⟨k,1,none⟩ (.slice a2 (s.un.length+1) k2)):=fun z' cs bP=>by
       have aF:=Keep.below N.out z' cs bP
       rw[zC _ _ _ _ _ (zE aF a4.out (by decide)),G.out A Q.out z' (Array.getElem?_eq_some_iff.1 aF).1 (fun e=>by
        obtain⟨cur,J⟩:=zB HU.out z' e
        exact zE aF J (by decide) rfl)]
       exact aF
      refine⟨⟨i+1,{ s with un:=s.un++[i] },_,by omega,rfl,by go_num,aC.out,a8,aK.out.bad aA.out W,F⟩,?_⟩
      simp[intOf];omega
    |none=>
     obtain⟨bO,g2,rfl,hV⟩:=h2 hE
     have bG:Hid _:=zIb kt rt t w.heap.size wr.heap.size k g2 i s U (aB.out.below N.out) (Nat.le_of_eq hk) (HB.out.trans (N.out.mono HB.out.size)).size hE bO hV HB.out.size
     clear h1 h2 hV
     go_wp2_with fail
     refine Calls.mono bG.out ?_
     rintro e A ⟨q1,q2,q3,q4⟩
     have aW:Hid (Below w.heap.size w A):=(HB.out.trans (N.out.mono HB.out.size)).trans q3
     have W:Keep wr A:=fun z cs Z=>q4 z cs (Keep.below N.out z cs Z)
     have bH:Hid (FirstE kt rt L (i+1) ff A):=aK.out.good (by rw[ht];exact hE) W
     clear q3 q4 W
     cases hst:s.step kt rt i t with
     |ok s'=>
      obtain⟨rfl,aH⟩:=q1 s' hst
      have a5:Hid (OI kt w.heap.size k s' A):=aH
      have aC:Hid (OS.run kt rt 0 (zh L (i+1)) OS.new=.ok s'):=by
       show _=_
       rw[zg,run_snoc kt rt (L i) _ 0 _ _ D.out,zi,Nat.zero_add,ht]
       exact hst
      clear q1 q2 aH
      go_wp2_with fail
      go_roundw
      case rel=>exact⟨i+1,s',ff,by omega,rfl,by go_num,aC.out,a5.out,bH.out,aW.out⟩
      case measure=>simp[intOf];omega
     |error ab=>
      obtain⟨a,b'⟩:=ab
      obtain⟨z,rfl,Z⟩:=q2 a b' hst
      have HZ:Hid _:=Z
      clear q1 q2 Z
      go_wp2_with fail
      go_ret2
      exact⟨OpD.err D.out (by rw[ht];exact hst) aR ⟨z,rfl,HZ.out⟩,aW.out⟩
   ·have e:i=n:=by omega
    subst e
    obtain⟨un,a9,hc⟩:=aB.out
    clear a9
    rcases hc with ⟨hd,X⟩|⟨t0,g,p,q,f,hd,hr,hp,hq,cH,hS⟩
    ·have c0:wr.cell? ⟨k,0,none⟩=some (.pointer none):=cell_of_row _ _ _ _ 114 _ X
     clear X
     by_cases aS:0<i
     ·cases hE:sdE kt rt (L 0) with
      |none=>exact absurd hE (zCD D.out aS hd)
      |some kp=>
       obtain⟨a,p⟩:=kp
       obtain⟨z,rfl,Z⟩:=aK.out.1 aS a p hE
       have HN:Hid _:=zEB i z a p wr aS Z
       clear Z
       go_wp2_with fail
       refine Calls.mono HN.out ?_
       rintro e A ⟨⟨x,y,z',rfl,hx⟩,F⟩
       have HX:Hid _:=hx
       have aJ:Hid _:=F
       clear hx F
       go_wp2_with fail
       go_ret2
       refine⟨?_,HB.out.trans (aJ.out.mono HB.out.size)⟩
       unfold OpD
       rw[D.out]
       refine .inl ⟨hd,_,rfl,fun h=>absurd h (by omega),fun _ k' p' h'=> ?_⟩
       rw[hE]at h'
       cases h'
       exact⟨x,y,z',rfl,HX.out⟩
     ·have e0:i=0:=by omega
      subst e0
      have HN:Hid _:=zBO ff wr
      go_wp2_with fail
      refine Calls.mono HN.out ?_
      rintro e A ⟨⟨z,rfl,Z⟩,F⟩
      have HZ:Hid _:=Z
      have aJ:Hid _:=F
      clear Z F
      go_wp2_with fail
      go_ret2
      refine⟨?_,HB.out.trans (aJ.out.mono HB.out.size)⟩
      unfold OpD
      rw[D.out]
      exact .inl ⟨hd,_,rfl,fun _=>⟨z,rfl,HZ.out⟩,fun h=>absurd h (by omega)⟩
    ·have c0:wr.cell? ⟨k,0,none⟩=some (.pointer (some ⟨g,0,none⟩)):=cell_of_row _ _ _ _ 114 _ hS.row
     clear hS
     go_wp2_with fail
     go_ret2
     refine⟨?_,HB.out⟩
     unfold OpD
     rw[D.out]
     exact .inr ⟨by rw[hd];simp,k,rfl,aB.out⟩
 ·have cS:(rt.size:Int)=32:=by omega
  obtain⟨k,hk⟩:∃k,w.heap.size=k:=⟨_,rfl⟩
  go_wp2_with fail
  go_loopw [7,26] (fun fv iv wr=>∃(i:Nat) (s:OS) (ff:Value),i≤n∧ff=fv∧iv=.int .i64 i∧OS.run kt rt 0 (zh L i) OS.new=.ok s∧OI kt w.heap.size k s wr∧FirstE kt rt L i ff wr∧Below w.heap.size w wr) (fun _ iv _=>n-(intOf iv).toNat)
  case atStart=>
   refine⟨0,OS.new,_,Nat.zero_le _,rfl,rfl,rfl,⟨.slice none 0 0,⟨rfl,.inl ⟨rfl,rfl⟩⟩,.inl ⟨rfl,by rw[←hk];exact heap_alloc_new _ _⟩⟩,⟨fun h=>absurd h (by omega),fun _=>rfl⟩,(Below.refl _ _).alloc (Nat.le_refl _) _⟩
  case round=>
   obtain⟨i,s,ff,hi,rfl,rfl,aI,b4,b3,hB⟩:=hrel
   have D:Hid _:=aI
   have aB:Hid (OI kt w.heap.size k s wr):=b4
   have aK:Hid (FirstE kt rt L i ff wr):=b3
   have HB:Hid _:=hB
   clear aI b4 b3 hB
   by_cases aR:i<n
   ·have bY:(i:Int)<(n:Int):=by omega
    have cb:wr.cell? ⟨b,i,none⟩=some (.string (L i)):=(HB.out.cell (p:=⟨b,i,none⟩) hb).trans (HC.out i aR)
    have aL:Hid _:=zOG kt (L i) rt wr (HG.out.below HB.out) (HL.out i aR)
    obtain⟨t,ht⟩:∃t,L i=t:=⟨_,rfl⟩
    rw[ht]at cb aL
    go_wp2_with fail
    refine Calls.mono aL.out ?_
    rintro e U ⟨b2,h1,h2⟩
    have N:Hid _:=b2
    clear b2 cb aL
    cases hE:sdE kt rt t with
    |some kp=>
     obtain⟨a,p⟩:=kp
     obtain⟨z,rfl,Z⟩:=h1 a p hE
     have HZ:Hid (U.heap[z]? =some (.cells #[.int .i64 (a:Nat),.int .i64 (p:Nat),.nilIface] 152 (0,0))):=Z
     clear h1 h2 Z
     have cK:s.un.length≤i:=by have h1:=zIZ _ _ _ _ D.out;rw[zi]at h1;have h2:OS.new.un.length=0:=rfl;omega
     obtain⟨un,a9,hc⟩:=aB.out.below N.out
     obtain⟨vh,aV,aN,aP,X⟩:∃vh aV aN aP,U.heap[k]? =some (.cells (stC vh un aV aN aP) 114 (0,0)):=by
      rcases hc with ⟨_,h⟩|⟨t0,g,p,q,f,_,_,_,_,_,hS⟩
      ·exact⟨_,_,_,_,h⟩
      ·exact⟨_,_,_,_,hS.row⟩
     obtain⟨au,cu,rfl⟩:=zA a9
     have c1:U.cell? ⟨k,1,none⟩=some (.slice au s.un.length cu):=cell_of_row _ _ _ _ 114 _ X
     have a4:Hid _:=X
     have HU:Hid (U.ownsRow w.heap.size 3 1 (.slice au s.un.length cu) s.un.length (unV s.un)):=a9
     have aX:Hid _:=hc
     clear X a9 hc
     obtain⟨i0,b6,z0,z1,z2⟩:∃i0,Tryz.prog.info? 3=some i0∧i0.zero=some (.int .i64 0)∧i0.size=1∧i0.bytes=8:=by
      have h:=zBW
      cases hi:Tryz.prog.info? 3 with
      |none=>rw[hi]at h;cases h
      |some i=>rw[hi]at h;simp at h;exact⟨i,rfl,h.1,h.2.1,h.2.2⟩
     have a1:Hid (Below w.heap.size w U):=HB.out.trans (N.out.mono HB.out.size)
     have cL:w.heap.size≤U.heap.size:=a1.out.size
     have G:Hid (∀A:World,(U.alloc (.cells #[.int .i64 i] 3)).grownBy A (Value.slice au s.un.length cu).ownBlock→∀j,j<U.heap.size→(Value.slice au s.un.length cu).ownBlock≠some j→A.heap[j]? =U.heap[j]?):=fun A hG j hj bM=>by rw[hG.block j (by simp;omega) (fun e=>bM e.symm),heap_alloc_old _ _ hj]
     have aZ:Hid (k<U.heap.size∧(Value.slice au s.un.length cu).ownBlock≠some k):=⟨(Array.getElem?_eq_some_iff.1 a4.out).1,fun e=>by
      obtain⟨cur,J⟩:=zB HU.out k e
      exact zE a4.out J (by decide) rfl⟩
     have aM:Hid (s.step kt rt i t=.ok { s with un:=s.un++[i] }):=by
      show _=_
      unfold OS.step
      rw[hE]
      rfl
     have aC:Hid (OS.run kt rt 0 (zh L (i+1)) OS.new=.ok { s with un:=s.un++[i] }):=by
      show _=_
      rw[zg,run_snoc kt rt (L i) _ 0 _ _ D.out,zi,Nat.zero_add,ht]
      exact aM.out
     have aY:Hid (∀A:World,(U.alloc (.cells #[.int .i64 i] 3)).grownBy A (Value.slice au s.un.length cu).ownBlock→A.heap[k]? =some (.cells (stC vh (.slice au s.un.length cu) aV aN aP) 114 (0,0))):=fun A hG=>(G.out A hG k aZ.out.1 aZ.out.2).trans a4.out
     by_cases aE:i=0
     ·have b7:((i:Int) == 0)=true:=by simp;omega
      have aA:Hid (i=0):=aE
      clear aE
      go_wp2_with (at_builtin;refine wpList_append_own _ rfl (.tmp 46) (.tmp 48) 23 rfl w.heap.size 3 i0 (.int .i64 0) 1 8 Tryz.underlying23 b6 z0 z1 z2 rfl (by decide) (.slice au s.un.length cu) s.un.length (unV s.un) (by simp[Act.eval]) (HU.out.alloc _) ⟨U.heap.size,0,none⟩ 1 1 [.int .i64 i] (by simp[Act.eval]) rfl (cell_one_new _ _ _) (by intro u hu;simp at hu;subst hu;rfl) (by unfold maxLen;omega) (by omega) (by simp;omega) ?_;intro v2 A hO2 hG2 _;obtain⟨a2,k2,hv2⟩:=zA hO2;subst hv2;have R:=aY.out A hG2;have m1:A.cell? ⟨k,1,none⟩=some (.slice au s.un.length cu):=(cell_of_row _ _ _ _ 114 _ R);have m2:=frozen_of_row A k 1 _ 114 R;have a5:Hid _:=hO2;have Q:Hid _:=hG2;clear hO2 hG2 R)
      have a8:OI kt w.heap.size k { s with un:=s.un++[i] } (A.setCell ⟨k,1,none⟩ (.slice a2 (s.un.length+1) k2)):=OI.more HU.out aX.out a5.out (G.out A Q.out)
      have aQ:w.heap.size≤k:=Nat.le_of_eq hk
      have F:Below w.heap.size w (A.setCell ⟨k,1,none⟩ (.slice a2 (s.un.length+1) k2)):=Fr.toBelow ((((Fr.below a1.out).alloc (.cells #[.int .i64 i] 3)).grown Q.out (fun q hq=>.inr (zK HU.out q hq))).set (g:=k) (.inr aQ) _ _)
      have W:(A.setCell ⟨k,1,none⟩ (.slice a2 (s.un.length+1) k2)).heap[z]? =some (.cells #[.int .i64 (a:Nat),.int .i64 (p:Nat),.nilIface] 152 (0,0)):=by
       rw[zC _ _ _ _ _ (zE HZ.out a4.out (by decide)),G.out A Q.out z (Array.getElem?_eq_some_iff.1 HZ.out).1 (fun e=>by
        obtain⟨cur,J⟩:=zB HU.out z e
        exact zE HZ.out J (by decide) rfl)]
       exact HZ.out
      refine⟨⟨i+1,{ s with un:=s.un++[i] },_,by omega,rfl,by go_num,aC.out,a8,⟨fun _ k' p' h'=> ?_,fun bL=> ?_⟩,F⟩,?_⟩
      ·have e0:L 0=t:=by rw[←aA.out];exact ht
       rw[e0,hE]at h'
       cases h'
       exact⟨z,rfl,W⟩
      ·rcases bL with e|e
       ·exact absurd e (by omega)
       ·rw[show L 0=t by rw[←aA.out];exact ht,hE]at e
        cases e
      ·simp[intOf];omega
     ·have b7:((i:Int) == 0)=false:=by simp;omega
      have aA:Hid (0<i):=Nat.pos_of_ne_zero aE
      clear aE
      go_wp2_with (at_builtin;refine wpList_append_own _ rfl (.tmp 46) (.tmp 48) 23 rfl w.heap.size 3 i0 (.int .i64 0) 1 8 Tryz.underlying23 b6 z0 z1 z2 rfl (by decide) (.slice au s.un.length cu) s.un.length (unV s.un) (by simp[Act.eval]) (HU.out.alloc _) ⟨U.heap.size,0,none⟩ 1 1 [.int .i64 i] (by simp[Act.eval]) rfl (cell_one_new _ _ _) (by intro u hu;simp at hu;subst hu;rfl) (by unfold maxLen;omega) (by omega) (by simp;omega) ?_;intro v2 A hO2 hG2 _;obtain⟨a2,k2,hv2⟩:=zA hO2;subst hv2;have R:=aY.out A hG2;have m1:A.cell? ⟨k,1,none⟩=some (.slice au s.un.length cu):=(cell_of_row _ _ _ _ 114 _ R);have m2:=frozen_of_row A k 1 _ 114 R;have a5:Hid _:=hO2;have Q:Hid _:=hG2;clear hO2 hG2 R)
      have a8:OI kt w.heap.size k { s with un:=s.un++[i] } (A.setCell ⟨k,1,none⟩ (.slice a2 (s.un.length+1) k2)):=OI.more HU.out aX.out a5.out (G.out A Q.out)
      have aQ:w.heap.size≤k:=Nat.le_of_eq hk
      have F:Below w.heap.size w (A.setCell ⟨k,1,none⟩ (.slice a2 (s.un.length+1) k2)):=Fr.toBelow ((((Fr.below a1.out).alloc (.cells #[.int .i64 i] 3)).grown Q.out (fun q hq=>.inr (zK HU.out q hq))).set (g:=k) (.inr aQ) _ _)
      have W:Keep wr (A.setCell ⟨k,1,none⟩ (.slice a2 (s.un.length+1) k2)):=fun z' cs bP=>by
       have aF:=Keep.below N.out z' cs bP
       rw[zC _ _ _ _ _ (zE aF a4.out (by decide)),G.out A Q.out z' (Array.getElem?_eq_some_iff.1 aF).1 (fun e=>by
        obtain⟨cur,J⟩:=zB HU.out z' e
        exact zE aF J (by decide) rfl)]
       exact aF
      refine⟨⟨i+1,{ s with un:=s.un++[i] },_,by omega,rfl,by go_num,aC.out,a8,aK.out.bad aA.out W,F⟩,?_⟩
      simp[intOf];omega
    |none=>
     obtain⟨bO,g2,rfl,hV⟩:=h2 hE
     have bG:Hid _:=zIb kt rt t w.heap.size wr.heap.size k g2 i s U (aB.out.below N.out) (Nat.le_of_eq hk) (HB.out.trans (N.out.mono HB.out.size)).size hE bO hV HB.out.size
     clear h1 h2 hV
     go_wp2_with fail
     refine Calls.mono bG.out ?_
     rintro e A ⟨q1,q2,q3,q4⟩
     have aW:Hid (Below w.heap.size w A):=(HB.out.trans (N.out.mono HB.out.size)).trans q3
     have W:Keep wr A:=fun z cs Z=>q4 z cs (Keep.below N.out z cs Z)
     have bH:Hid (FirstE kt rt L (i+1) ff A):=aK.out.good (by rw[ht];exact hE) W
     clear q3 q4 W
     cases hst:s.step kt rt i t with
     |ok s'=>
      obtain⟨rfl,aH⟩:=q1 s' hst
      have a5:Hid (OI kt w.heap.size k s' A):=aH
      have aC:Hid (OS.run kt rt 0 (zh L (i+1)) OS.new=.ok s'):=by
       show _=_
       rw[zg,run_snoc kt rt (L i) _ 0 _ _ D.out,zi,Nat.zero_add,ht]
       exact hst
      clear q1 q2 aH
      go_wp2_with fail
      go_roundw
      case rel=>exact⟨i+1,s',ff,by omega,rfl,by go_num,aC.out,a5.out,bH.out,aW.out⟩
      case measure=>simp[intOf];omega
     |error ab=>
      obtain⟨a,b'⟩:=ab
      obtain⟨z,rfl,Z⟩:=q2 a b' hst
      have HZ:Hid _:=Z
      clear q1 q2 Z
      go_wp2_with fail
      go_ret2
      exact⟨OpD.err D.out (by rw[ht];exact hst) aR ⟨z,rfl,HZ.out⟩,aW.out⟩
   ·have e:i=n:=by omega
    subst e
    obtain⟨un,a9,hc⟩:=aB.out
    clear a9
    rcases hc with ⟨hd,X⟩|⟨t0,g,p,q,f,hd,hr,hp,hq,cH,hS⟩
    ·have c0:wr.cell? ⟨k,0,none⟩=some (.pointer none):=cell_of_row _ _ _ _ 114 _ X
     clear X
     by_cases aS:0<i
     ·cases hE:sdE kt rt (L 0) with
      |none=>exact absurd hE (zCD D.out aS hd)
      |some kp=>
       obtain⟨a,p⟩:=kp
       obtain⟨z,rfl,Z⟩:=aK.out.1 aS a p hE
       have HN:Hid _:=zEB i z a p wr aS Z
       clear Z
       go_wp2_with fail
       refine Calls.mono HN.out ?_
       rintro e A ⟨⟨x,y,z',rfl,hx⟩,F⟩
       have HX:Hid _:=hx
       have aJ:Hid _:=F
       clear hx F
       go_wp2_with fail
       go_ret2
       refine⟨?_,HB.out.trans (aJ.out.mono HB.out.size)⟩
       unfold OpD
       rw[D.out]
       refine .inl ⟨hd,_,rfl,fun h=>absurd h (by omega),fun _ k' p' h'=> ?_⟩
       rw[hE]at h'
       cases h'
       exact⟨x,y,z',rfl,HX.out⟩
     ·have e0:i=0:=by omega
      subst e0
      have HN:Hid _:=zBO ff wr
      go_wp2_with fail
      refine Calls.mono HN.out ?_
      rintro e A ⟨⟨z,rfl,Z⟩,F⟩
      have HZ:Hid _:=Z
      have aJ:Hid _:=F
      clear Z F
      go_wp2_with fail
      go_ret2
      refine⟨?_,HB.out.trans (aJ.out.mono HB.out.size)⟩
      unfold OpD
      rw[D.out]
      exact .inl ⟨hd,_,rfl,fun _=>⟨z,rfl,HZ.out⟩,fun h=>absurd h (by omega)⟩
    ·have c0:wr.cell? ⟨k,0,none⟩=some (.pointer (some ⟨g,0,none⟩)):=cell_of_row _ _ _ _ 114 _ hS.row
     clear hS
     go_wp2_with fail
     go_ret2
     refine⟨?_,HB.out⟩
     unfold OpD
     rw[D.out]
     exact .inr ⟨by rw[hd];simp,k,rfl,aB.out⟩
end Go.Proofs.YtlopecgkiikdhaaGreatDoor
