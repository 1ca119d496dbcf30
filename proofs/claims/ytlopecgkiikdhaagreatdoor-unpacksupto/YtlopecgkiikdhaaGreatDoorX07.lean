import Derived.Test.YtlopecgkiikdhaaGreatDoorX06
import Derived.Test.YtlopecgkiikdhaaGreatDoorX05
import Derived.Sort.KeysCollected
import Derived.Deep.RegionLawGrows
namespace Go.Proofs.YtlopecgkiikdhaaGreatDoor
open Go.RowKit
theorem zKX (B b:Nat)(l:List UInt8)(w:World)(h:Lib.IsBuilderF 275 5 B b (Lib.byteCells l) w)(j:B≤w.heap.size):
 Calls Tryz.prog 178 #[.pointer (some ⟨b,0,none⟩)] w fun e w'=>e=.returned (.string ⟨l.toArray⟩)∧(Lib.IsBuilderF 275 5 B b (Lib.byteCells l) w'∧Below B w w'∧Lib.OthersKept 5 (some b) w w'):=
 Any.Builder_String_any_k Tryz.lays169 Tryz.Builder_Extra_169 B b l w h j
theorem zD2 (a:Option Addr)(c:Nat)(j:ByteArray)(w:World):
 Calls Tryz.prog 165 #[.slice a 0 c,.string j] w fun e w'=>e=.returned (.string ⟨#[]⟩)∧w'=w:=
 Any.strings_Join_none Tryz.lays156 Tryz.Builder_Extra_156 a c j w
theorem zHm (g o c:Nat)(A:List ByteArray)(u:ByteArray)(w:World)(D:∀(j:Nat) x,A[j]? =some x→w.cell? ⟨g,o+j,none⟩=some (.string x))(F:g<w.heap.size)(G:A.length≤140737488355328)(J:A.length≤c)(N:(Lib.join (A.map (·.data.toList)) u.data.toList).length≤140737488355328):
 Calls Tryz.prog 165 #[.slice (some ⟨g,o,none⟩) A.length c,.string u] w fun e w'=>e=.returned (.string ⟨(Lib.join (A.map (·.data.toList)) u.data.toList).toArray⟩)∧Below w.heap.size w w':=
 Any.strings_Join Tryz.lays156 Tryz.Builder_Extra_156 g o c A u w D F G J N
end Go.Proofs.YtlopecgkiikdhaaGreatDoor
namespace Go.Proofs.YtlopecgkiikdhaaGreatDoor
open Go.RowKit Go.Shelf
set_option maxRecDepth 100000
set_option maxHeartbeats 2000000
theorem zGj {w w':World}{base:Nat}{e:TypeId}{size:Nat}{v:Value}{n:Nat}{D:List Value}(h:w.ownsRowF base e size v n D)(hb:Below w.heap.size w w'):w'.ownsRowF base e size v n D:=by
 refine⟨h.1,?_⟩
 rcases h.2 with F|⟨g,u,cur,fz,J,G,A,j⟩
 ·exact .inl F
 ·exact .inr ⟨g,u,cur,fz,J,G,by rw[hb.block g (Array.getElem?_eq_some_iff.1 A).1];exact A,j⟩
theorem zB4 {B b:Nat}{p:Value}{bs:List Value}{w w':World}(h:Lib.BuilderAtF 275 5 B b p bs w)(hb:Below w.heap.size w w'):Lib.BuilderAtF 275 5 B b p bs w':=by
 obtain⟨u,v,j,A,D⟩:=h
 exact⟨u,v,by rw[hb.block b (Array.getElem?_eq_some_iff.1 j).1];exact j,zGj A hb,D⟩
def Bld (b:Nat)(l:List UInt8)(w:World):Prop:=Lib.IsBuilderF 275 5 b b (Lib.byteCells l) w
theorem Bld.below {b:Nat}{l:List UInt8}{w w':World}(h:Bld b l w)(hb:Below w.heap.size w w'):Bld b l w':=by
 rcases h with h|h
 ·exact .inl (zB4 h hb)
 ·exact .inr (zB4 h hb)
theorem Bld.lt {b:Nat}{l:List UInt8}{w:World}(h:Bld b l w):b<w.heap.size:=by
 rcases h with h|h
 ·exact h.lt
 ·exact h.lt
theorem Bld.fresh (w:World):Bld w.heap.size [] (w.alloc (.cells #[.pointer none,.slice none 0 0] 275)):=Lib.IsBuilderF.of (Lib.fresh_isBuilder 275 5 w)
def Oth (b:Nat)(w w':World):Prop:=Lib.OthersKept 5 (some b) w w'
theorem Oth.below {b:Nat}{w w':World}(hb:Below w.heap.size w w'):Oth b w w':=fun k o hk _ _=>by rw[hb.block k (Array.getElem?_eq_some_iff.1 hk).1];exact hk
theorem Oth.trans {b:Nat}{a c d:World}(h:Oth b a c)(k:Oth b c d):Oth b a d:=Lib.OthersKept.trans h k
theorem Oth.row {b g:Nat}{w w':World}{u:Array Value}{t:TypeId}(h:Oth b w w')(A:w.heap[g]? =some (.cells u t (0,0)))(j:g≠b)(D:t≠5):w'.heap[g]? =some (.cells u t (0,0)):=
 h g _ A (by simpa using j) (fun c fz e=>by simp at e;exact D e.2.1)
theorem zKO (B b:Nat)(bs:List Value)(s:ByteArray)(w:World)(h:Lib.IsBuilderF 275 5 B b bs w)(j:bs.length+s.size≤140737488355328)(u:B≤w.heap.size):
 Calls Tryz.prog 177 #[.pointer (some ⟨b,0,none⟩),.string s] w fun e w'=>e=.returned (.tuple #[.int .i64 s.size,.nilIface])∧(Lib.BuilderAtF 275 5 B b (.pointer (some ⟨b,0,none⟩)) (bs++Lib.strCells s) w'∧Below B w w'∧Lib.OthersKept 5 (some b) w w'):=
 Any.Builder_WriteString_k (P:=Tryz.prog) (ρ:=Tryz.lays156_ren) { Tryz.lays156 with } Tryz.Builder_Extra_156 B b bs s w h j u
theorem zAy (b:Nat)(l:List UInt8)(s:ByteArray)(w:World)(h:Bld b l w)(hl:l.length+s.size≤140737488355328):
 Calls Tryz.prog 177 #[.pointer (some ⟨b,0,none⟩),.string s] w fun e w'=>e=.returned (.tuple #[.int .i64 s.size,.nilIface])∧Bld b (l++s.data.toList) w'∧Below b w w'∧Oth b w w':=by
 refine (zKO b b (Lib.byteCells l) s w h (by rw[Lib.byteCells_length];exact hl) (Nat.le_of_lt h.lt)).mono ?_
 rintro e w' ⟨D,j,u,A⟩
 refine⟨D,.inr ?_,u,A⟩
 rw[Lib.byteCells_append]
 exact j
theorem zJI (b:Nat)(l:List UInt8)(w:World)(h:Bld b l w):
 Calls Tryz.prog 178 #[.pointer (some ⟨b,0,none⟩)] w fun e w'=>e=.returned (.string ⟨l.toArray⟩)∧Below b w w':=by
 refine (zKX b b l w h (Nat.le_of_lt h.lt)).mono ?_
 rintro e w' ⟨u,_,j,_⟩
 exact⟨u,j⟩
def zEY (K M C V n:Nat):Nat→Nat
 |0=>K
 |1=>M
 |2=>C
 |3=>V
 |_=>n
def zM1:ByteArray:=⟨#[86,76,84,49]⟩
def zCh (F:Nat→Nat):Nat→List UInt8
 |0=>zM1.data.toList
 |i+1=>zCh F i++(zm (F i)).data.toList
def zCj (h:List UInt8)(Nm:Nat→ByteArray)(Ln:Nat→Nat):Nat→List UInt8
 |0=>h
 |j+1=>zCj h Nm Ln j++(zm (Nm j).size).data.toList++(Nm j).data.toList++(zm (Ln j)).data.toList
theorem dl (s:ByteArray):s.data.toList.length=s.size:=by simp
theorem zBw (F:Nat→Nat):∀i,(zCh F i).length≤4+5*i
 |0=>by show zM1.data.toList.length≤_;decide
 |i+1=>by
  have:=zBw F i
  have:=zO (F i)
  rw[zCh,List.length_append,dl];omega
theorem zDK (h:List UInt8)(u:Nat→ByteArray)(A:Nat→Nat)(D:∀j,(u j).size≤1000):∀j,(zCj h u A j).length≤h.length+1010*j
 |0=>by simp[zCj]
 |j+1=>by
  have:=zDK h u A D j
  have:=zO (u j).size
  have:=zO (A j)
  have:=D j
  rw[zCj,List.length_append,List.length_append,List.length_append,dl,dl,dl];omega
def zA1 (K M C V n:Nat)(Nm:Nat→ByteArray)(Ln:Nat→Nat):ByteArray:=⟨(zCj (zCh (zEY K M C V n) 5) Nm Ln n).toArray⟩
theorem zCt (K M C V n cE:Nat)(a:Option Addr)(u:Nat→ByteArray)(A:Nat→Nat)(w:World)(hK:K≤100000)(hM:M≤100000)(hC:C≤100000)(hV:V≤100000)(hn:n≤100000)(hN:∀j,(u j).size≤1000)(bJ:∀j,A j≤100000)
 (hE:∀j,j<n→∃b,a=some ⟨b,0,none⟩∧b<w.heap.size∧w.cell? ⟨b,j*2,none⟩=some (.string (u j))∧w.cell? ⟨b,j*2+1,none⟩=some (.int .i64 (A j))):
 Calls Tryz.prog 162 #[.agg #[.int .i64 K,.int .i64 M,.int .i64 C,.int .i64 V],.slice a n cE] w fun e w'=>e=.returned (.string (zA1 K M C V n u A))∧Below w.heap.size w w':=by
 have HE:Hid _:=hE
 have HN:Hid _:=hN
 have cD:Hid _:=bJ
 clear hE hN bJ
 go_enter Tryz.func162,Tryz.ntmps162
 go_wp2_with fail
 obtain⟨s1,a8⟩:∃s1,s1=(w.alloc (Obj.cells #[Value.int IntKind.i64 K,Value.int IntKind.i64 M,Value.int IntKind.i64 C,Value.int IntKind.i64 V] 81)).alloc (Obj.cells #[Value.pointer none,Value.slice none 0 0] 275):=⟨_,rfl⟩
 have R:Hid (Bld (w.heap.size+1) [] s1):=by
  show Bld _ _ _
  have h:=Bld.fresh (w.alloc (Obj.cells #[Value.int IntKind.i64 K,Value.int IntKind.i64 M,Value.int IntKind.i64 C,Value.int IntKind.i64 V] 81))
  rw[a8]
  have e:(w.alloc (Obj.cells #[Value.int IntKind.i64 K,Value.int IntKind.i64 M,Value.int IntKind.i64 C,Value.int IntKind.i64 V] 81)).heap.size=w.heap.size+1:=by simp
  rw[e]at h
  exact h
 have aP:Hid (s1.heap[w.heap.size]? =some (.cells #[.int .i64 K,.int .i64 M,.int .i64 C,.int .i64 V] 81 (0,0))):=by
  show _=_
  rw[a8,Below.heap_alloc _ _ _ (by simp)];exact heap_alloc_new _ _
 have aY:Hid (Below w.heap.size w s1):=by
  show Below _ _ _
  rw[a8];exact ((Below.refl _ w).alloc (Nat.le_refl _) _).alloc (by simp) _
 rw[←a8]
 clear a8
 obtain⟨x,hx⟩:∃x,x=w.heap.size:=⟨_,rfl⟩
 obtain⟨b,hb⟩:∃b,b=x+1:=⟨_,rfl⟩
 rw[←hx]at R aP ⊢
 rw[←hb]at R ⊢
 have HX:Hid _:=hx
 have cN:x<b:=by omega
 clear hx hb
 have HF:Hid (zCh (zEY K M C V n) 0=zM1.data.toList):=rfl
 refine (zAy b [] zM1 s1 R.out (by decide)).mono ?_
 rintro e W ⟨rfl,D,U,aE⟩
 have a1:Hid (Bld b (zCh (zEY K M C V n) 0) W):=D
 have aL:Hid (Below w.heap.size w W):=aY.out.trans (U.mono (by rw[←HX.out];omega))
 have a2:Hid (W.heap[x]? =some (.cells #[.int .i64 K,.int .i64 M,.int .i64 C,.int .i64 V] 81 (0,0))):=by
  show _=_
  rw[U.block x cN];exact aP.out
 clear D U aE R aP aY
 have c0:W.cell? ⟨x,0,none⟩=some (.int .i64 K):=cell_of_row _ _ _ _ 81 _ a2.out
 have c1:W.cell? ⟨x,1,none⟩=some (.int .i64 M):=cell_of_row _ _ _ _ 81 _ a2.out
 have c2:W.cell? ⟨x,2,none⟩=some (.int .i64 C):=cell_of_row _ _ _ _ 81 _ a2.out
 have c3:W.cell? ⟨x,3,none⟩=some (.int .i64 V):=cell_of_row _ _ _ _ 81 _ a2.out
 go_wp2
 obtain⟨s3,aF⟩:∃s3,s3=W.alloc (Obj.cells #[Value.int IntKind.i64 K,Value.int IntKind.i64 M,Value.int IntKind.i64 C,Value.int IntKind.i64 V,Value.int IntKind.i64 n] 3):=⟨_,rfl⟩
 have a5:Below W.heap.size W s3:=by rw[aF];exact (Below.refl _ _).alloc (Nat.le_refl _) _
 have bF:Hid (s3.heap[W.heap.size]? =some (.cells #[.int .i64 K,.int .i64 M,.int .i64 C,.int .i64 V,.int .i64 n] 3 (0,0))):=by
  show _=_
  rw[aF];exact heap_alloc_new _ _
 have aI:Hid (Bld b (zCh (zEY K M C V n) 0) s3):=a1.out.below a5
 have bZ:Hid (Below w.heap.size w s3):=aL.out.trans (a5.mono aL.out.size)
 have cG:b<W.heap.size:=a1.out.lt
 rw[←aF]
 clear aF a5 a1 a2 aL c0 c1 c2 c3
 obtain⟨nb,aT⟩:∃nb,nb=W.heap.size:=⟨_,rfl⟩
 rw[←aT]at bF cG ⊢
 have d1:Hid _:=aT
 clear aT
 have hF:∀i,zEY K M C V n i≤100000:=fun i=>by unfold zEY;split<;>omega
 have b4:Hid _:=hF
 have b5:Hid (∀i,i<5→(#[Value.int .i64 K,.int .i64 M,.int .i64 C,.int .i64 V,.int .i64 n]:Array Value)[i]? =some (.int .i64 ((zEY K M C V n i:Nat):Int))):=fun i hi=>by
  match i,hi with
  |0,_=>rfl
  |1,_=>rfl
  |2,_=>rfl
  |3,_=>rfl
  |4,_=>rfl
 obtain⟨F,aR⟩:∃F,zEY K M C V n=F:=⟨_,rfl⟩
 rw[aR]at aI b4 b5
 have cA:Hid _:=aR
 clear aR hF HF
 go_loopw [23] (fun iv wr=>∃i:Nat,i≤5∧iv=.int .i64 i∧Bld b (zCh F i) wr∧Oth b s3 wr∧Below w.heap.size w wr) (fun iv _=>5-(intOf iv).toNat)
 case atStart=>exact⟨0,by omega,rfl,aI.out,Oth.below (Below.refl _ _),bZ.out⟩
 case round=>
  obtain⟨i,hi,rfl,a7,bS,a6⟩:=hrel
  have Z:Hid (Bld b (zCh F i) wr):=a7
  have aA:Hid (Oth b s3 wr):=bS
  have X:Hid (Below w.heap.size w wr):=a6
  clear a7 bS a6
  by_cases cK:i<5
  ·have r0:wr.cell? ⟨nb,i,none⟩=some (.int .i64 ((F i:Nat):Int)):=by
    rw[cell_of_row _ _ _ _ 3 _ (aA.out.row bF.out (by omega) (by decide))];exact b5.out i cK
   have d4:=b4.out i
   have cX:((F i:Nat):Int)%4294967296=((F i:Nat):Int):=by omega
   have J:Hid _:=zBw F i
   have d2:Hid (zCh F (i+1)=zCh F i++(zm (F i)).data.toList):=rfl
   go_wp2_with fail
   refine (zAZ (F i) wr (by omega)).mono ?_
   rintro e w1 ⟨rfl,N⟩
   have aH:Hid (Bld b (zCh F i) w1):=Z.out.below N
   have aJ:Hid (Oth b s3 w1):=aA.out.trans (Oth.below N)
   have aG:Hid (Below w.heap.size w w1):=X.out.trans (N.mono X.out.size)
   clear N Z aA X r0
   go_wp2_with fail
   refine (zAy b (zCh F i) (zm (F i)) w1 aH.out (by have:=J.out;have:=zO (F i);omega)).mono ?_
   rintro e w2 ⟨rfl,D,U,aE⟩
   have b0:Hid (Bld b (zCh F (i+1)) w2):=D
   have bC:Hid (Oth b s3 w2):=aJ.out.trans aE
   have aZ:Hid (Below w.heap.size w w2):=aG.out.trans (U.mono (by rw[←HX.out];omega))
   clear D U aE aH aJ aG
   go_wp2
   go_roundw
   case rel=>exact⟨i+1,by omega,by go_num,b0.out,bC.out,aZ.out⟩
   case measure=>simp[intOf];omega
  ·have e:i=5:=by omega
   subst e
   obtain⟨s4,bT⟩:∃s4,s4=wr:=⟨_,rfl⟩
   rw[←bT]at Z X ⊢
   clear bT
   obtain⟨hd,aD⟩:∃hd,zCh F 5=hd:=⟨_,rfl⟩
   have d8:hd.length≤29:=by rw[←aD];exact zBw F 5
   rw[aD]at Z
   have cB:Hid _:=aD
   clear aD aA
   go_wp2
   go_loopw [34] (fun jv wr=>∃j:Nat,j≤n∧jv=.int .i64 j∧Bld b (zCj hd u A j) wr∧Below w.heap.size w wr) (fun jv _=>n-(intOf jv).toNat)
   case atStart=>exact⟨0,by omega,rfl,Z.out,X.out⟩
   case round=>
    obtain⟨j,hj,rfl,a7,a6⟩:=hrel
    have Q:Hid (Bld b (zCj hd u A j) wr):=a7
    have G:Hid (Below w.heap.size w wr):=a6
    clear a7 a6
    by_cases cJ:j<n
    ·obtain⟨eb,ha,bO,cH,cI⟩:=HE.out j cJ
     subst ha
     have r0:wr.cell? ⟨eb,j*2,none⟩=some (.string (u j)):=(G.out.cell (p:=⟨eb,j*2,none⟩) bO).trans cH
     have r1:wr.cell? ⟨eb,j*2+1,none⟩=some (.int .i64 (A j)):=(G.out.cell (p:=⟨eb,j*2+1,none⟩) bO).trans cI
     have d6:=HN.out j
     have d5:=cD.out j
     have J:Hid _:=zDK hd u A HN.out j
     have d9:((u j).size:Int)%4294967296=((u j).size:Int):=by omega
     have dA:((A j:Nat):Int)%4294967296=((A j:Nat):Int):=by omega
     go_wp2_with fail
     obtain⟨e1,aC⟩:∃e1,e1=wr.alloc (Obj.cells #[Value.string (u j),Value.int IntKind.i64 (A j)] 131):=⟨_,rfl⟩
     have a4:Below wr.heap.size wr e1:=by rw[aC];exact (Below.refl _ _).alloc (Nat.le_refl _) _
     have aB:Hid (e1.heap[wr.heap.size]? =some (.cells #[.string (u j),.int .i64 (A j)] 131 (0,0))):=by
      show _=_
      rw[aC];exact heap_alloc_new _ _
     have b6:Hid (Bld b (zCj hd u A j) e1):=Q.out.below a4
     have aM:Hid (Below w.heap.size w e1):=G.out.trans (a4.mono G.out.size)
     have cL:b<wr.heap.size:=Q.out.lt
     rw[←aC]
     clear aC a4 Q G r0 r1
     obtain⟨pb,aU⟩:∃pb,pb=wr.heap.size:=⟨_,rfl⟩
     rw[←aU]at aB cL ⊢
     have d3:Hid _:=aU
     clear aU
     refine (zAZ (u j).size e1 (by omega)).mono ?_
     rintro e e2 ⟨rfl,D⟩
     have bD:Hid (e2.heap[pb]? =some (.cells #[.string (u j),.int .i64 (A j)] 131 (0,0))):=by
      show _=_
      rw[D.block pb (Array.getElem?_eq_some_iff.1 aB.out).1];exact aB.out
     have b7:Hid (Bld b (zCj hd u A j) e2):=b6.out.below D
     have b1:Hid (Below w.heap.size w e2):=aM.out.trans (D.mono aM.out.size)
     clear D aB b6 aM
     have dB:=zO (u j).size
     have dC:=zO (A j)
     go_wp2_with fail
     refine (zAy b _ (zm (u j).size) e2 b7.out (by have:=J.out;omega)).mono ?_
     rintro e e3 ⟨rfl,bK,bU,bP⟩
     have aO:Hid (e3.heap[pb]? =some (.cells #[.string (u j),.int .i64 (A j)] 131 (0,0))):=bP.row bD.out (by omega) (by decide)
     have b9:Hid (Bld b (zCj hd u A j++(zm (u j).size).data.toList) e3):=bK
     have b2:Hid (Below w.heap.size w e3):=b1.out.trans (bU.mono (by rw[←HX.out];omega))
     clear bK bU bP bD b7 b1
     have p0:e3.cell? ⟨pb,0,none⟩=some (.string (u j)):=cell_of_row _ _ _ _ 131 _ aO.out
     go_wp2_with fail
     refine (zAy b _ (u j) e3 b9.out (by have:=J.out;rw[List.length_append,dl];omega)).mono ?_
     rintro e e4 ⟨rfl,bL,bV,bQ⟩
     have bE:Hid (e4.heap[pb]? =some (.cells #[.string (u j),.int .i64 (A j)] 131 (0,0))):=bQ.row aO.out (by omega) (by decide)
     have bA:Hid (Bld b (zCj hd u A j++(zm (u j).size).data.toList++(u j).data.toList) e4):=bL
     have aN:Hid (Below w.heap.size w e4):=b2.out.trans (bV.mono (by rw[←HX.out];omega))
     clear bL bV bQ aO b9 b2 p0
     have p1:e4.cell? ⟨pb,1,none⟩=some (.int .i64 (A j)):=cell_of_row _ _ _ _ 131 _ bE.out
     go_wp2_with fail
     refine (zAZ (A j) e4 (by omega)).mono ?_
     rintro e e5 ⟨rfl,aS⟩
     have bB:Hid (Bld b (zCj hd u A j++(zm (u j).size).data.toList++(u j).data.toList) e5):=bA.out.below aS
     have b3:Hid (Below w.heap.size w e5):=aN.out.trans (aS.mono aN.out.size)
     clear aS bE bA aN p1
     go_wp2_with fail
     refine (zAy b _ (zm (A j)) e5 bB.out (by have:=J.out;rw[List.length_append,List.length_append,dl,dl];omega)).mono ?_
     rintro e e6 ⟨rfl,bM,bW,_⟩
     have cC:Hid (Bld b (zCj hd u A (j+1)) e6):=bM
     have c8:Hid (Below w.heap.size w e6):=b3.out.trans (bW.mono (by rw[←HX.out];omega))
     clear bM bW bB b3
     go_wp2
     go_roundw
     case rel=>exact⟨_,_,_,_,_,_,_,_,_,_,_,_,_,_,_,_,_,_,_,_,⟨j+1,by omega,by go_num,cC.out,c8.out⟩,rfl⟩
     case measure=>simp[intOf];omega
    ·have e:j=n:=by omega
     go_wp2_with fail
     refine (zJI b _ wr Q.out).mono ?_
     rintro e w1 ⟨rfl,N⟩
     have c9:Hid (Below w.heap.size w w1):=G.out.trans (N.mono (by rw[←HX.out];omega))
     clear N
     go_wp2
     go_ret
     refine⟨?_,c9.out⟩
     show Ending.returned (.string ⟨(zCj hd u A n).toArray⟩)=_
     unfold zA1
     rw[cA.out,cB.out]
end Go.Proofs.YtlopecgkiikdhaaGreatDoor
namespace Go.Proofs.YtlopecgkiikdhaaGreatDoor
open Go.RowKit
set_option maxRecDepth 100000
set_option maxHeartbeats 1000000
theorem zMP {w w':World}{base b k:Nat}{e:TypeId}{size:Nat}{v:Value}{D:List Value}(h:w.ownsRow base e size v k D)(A:∀r,v.ownBlock=some r→r<b)(hb:Below b w w'):w'.ownsRow base e size v k D:=by
 refine⟨h.1,?_⟩
 rcases h.2 with F|⟨g,u,cur,rfl,G,J,j⟩
 ·exact .inl F
 ·exact .inr ⟨g,u,cur,rfl,G,by rw[hb.block g (A g rfl)];exact J,j⟩
end Go.Proofs.YtlopecgkiikdhaaGreatDoor
namespace Go.Proofs.YtlopecgkiikdhaaGreatDoor
open Go.RowKit Go.Maps
set_option maxRecDepth 100000
set_option maxHeartbeats 1000000
theorem zAU (w:World)(A:List Value)(t:TypeId)(j:Nat)(u:Value)(h:A[j]? =some u):(w.alloc (.cells A.toArray t)).cell? ((⟨w.heap.size,0,none⟩:Addr).add j)=some u:=by
 rw[Addr.add_lit]
 rw[cell_of_row _ _ _ _ t _ (heap_alloc_new w (.cells A.toArray t))]
 simpa using h
theorem zHb:(Tryz.prog.info? 131).map (fun i=>(i.zero,i.size,i.bytes))=some (some (.agg #[.string ⟨#[]⟩,.int .i64 0]),2,24):=by kernel_rfl
end Go.Proofs.YtlopecgkiikdhaaGreatDoor
namespace Go.Proofs.YtlopecgkiikdhaaGreatDoor
open Go.RowKit
theorem zDc (t:ByteArray):∀u∈[Value.string t],u.oneCell'=true:=by
 intro u j;simp at j;subst j;rfl
theorem zAM {P:Program}{J:Array Oper}{o:Oper}{a:Act}{w:World}{K:Act→World→Prop}{Q:Exit→Act→World→Prop}{E:Prop}
 (hg:o.guard=none) (s x:Operand) (t:TypeId) (W:o.op=Op.call { callee:=Callee.builtin Builtin.append,args:= #[s,x],argTypes:= #[t,t] })
 (e:TypeId) (i:TypeInfo) (z:Value) (size bytes:Nat) (h1:P.underlying t=some (.slice e)) (h2:P.info? e=some i) (h3:i.zero=some z) (h4:i.size=size) (h5:i.bytes=bytes) (h6:z.cells.size=size) (h7:0<size)
 (base:Nat) (v:Value) (n:Nat) (X:List Value) (hs:a.eval s=v) (F:w.ownsRow base e size v n X)
 (R:Addr) (m c:Nat) (A:List Value) (hx:a.eval x=.slice (some R) m c) (hn:A.length=m*size) (hc:∀j u,A[j]? =some u→w.cell? (R.add j)=some u) (U:∀u∈A,u.oneCell'=true)
 (Z:n+m≤maxLen) (b2:(n+m)*bytes≤140737488355328) (D:base≤w.heap.size)
 (hK:∀N w',w'.ownsRow base e size N (n+m) (X++A)→w.grownBy w' v.ownBlock→K (a.put o.dst N) w'):
 if Region.wanted o (yielded J a.tmps)=true then Oper.wp P o a w K Q else E:=by
 have hw:Region.wanted o (yielded J a.tmps)=true:=by simp[Region.wanted,hg]
 rw[if_pos hw]
 obtain⟨N,w',G,r1,r2,_⟩:=run_append_own (P:=P) w base t o.type e i z size bytes h1 h2 h3 h4 h5 h6 h7 v n X F R m c A hn hc U Z b2 D
 unfold Oper.wp
 simp[execOp,W,resolve,invoke,builtin,hs,hx,G,Result.andThen]
 exact hK N w' r1 r2
set_option maxRecDepth 100000
set_option maxHeartbeats 1000000
theorem zDM (n:Nat)(w:World)(_hn:n≤1000000000000):
 Calls Tryz.prog 60 #[.int .i64 n] w fun e w'=>∃s,e=.returned (.string s)∧Below w.heap.size w w':=by
 have j:=run_convert_bytes_arg (P:=Tryz.prog) (w.alloc (Obj.cells #[Value.int IntKind.u8 (↑n%256),Value.int IntKind.u8 (↑n/256%256),Value.int IntKind.u8 (↑n/65536%256)] 5)) 173 5 Tryz.underlying173 Tryz.underlying5 w.heap.size 0 3 3 [(n:Int)%256,(n:Int)/256%256,(n:Int)/65536%256] rfl (fun i hi=>by
  rw[Nat.zero_add,cell_of_row _ _ _ _ 5 _ (heap_alloc_new w _)]
  match i,hi with
  |0,_=>rfl
  |1,_=>rfl
  |2,_=>rfl) 9 Tryz.underlying9
 obtain⟨s,hs⟩:∃s,s=strOfNums [(n:Int)%256,(n:Int)/256%256,(n:Int)/65536%256]:=⟨_,rfl⟩
 have u:s.size=3:=by rw[hs,strOfNums_size];rfl
 rw[←hs]at j
 clear hs
 go_enter Tryz.func60,Tryz.ntmps60
 go_wp2
 go_ret
 exact⟨_,rfl,(Below.refl _ _).alloc (Nat.le_refl _) _⟩
theorem zB {w:World}{base:Nat}{e:TypeId}{size:Nat}{v:Value}{n:Nat}{G:List Value}(h:w.ownsRow base e size v n G):∀q,v.ownBlock=some q→∃cur,w.heap[q]? =some (.cells cur e (0,0)):=by
 intro q j
 rcases h.2 with ⟨A,_⟩|⟨g,u,cur,F,J,D,_⟩
 ·rw[A]at j;simp[Value.ownBlock]at j
 ·rw[F]at j;simp[Value.ownBlock]at j;subst j;exact⟨cur,D⟩
theorem zCE {w w':World}{o:Obj}{row:Option Nat}(h:(w.alloc o).drew.grownBy w' row)(B:Nat)(j:B<w.heap.size)(u:∀q,row=some q→q≠B):w'.heap[B]? =w.heap[B]? :=by
 rw[h.block B (by show B<(w.alloc o).heap.size;simp;omega) (fun e=>u B e.symm rfl)]
 exact Below.heap_alloc w o B j
set_option maxHeartbeats 4000000
theorem zML (s:RS)(lo:Nat)(hi:Int)(j:0≤hi):((s.num lo hi).2:Int)≤hi:=by
 unfold RS.num
 split
 ·simpa using j
 ·split
  ·simpa using j
  ·rename_i h
   simp only[not_or]at h
   show ((vrd (s.text.extract s.next s.text.size)).1:Int)≤hi
   omega
theorem zCS {P:Program}{fn:Func}{p u:Tmp}{D:TypeId}(h:fn.results= #[.cell p D,.tmp u])(j:Array Value)(w:World)(g:Nat)(t:TypeId)(A:Array Value)(fr:Nat×Nat)(d:TypeDesc)
 (hp:j.getD p undef=.pointer (some ⟨g,0,none⟩)) (F:w.heap[g]? =some (.cells A t fr))
 (G:P.underlying D=some d) (hd:(match d with| .struct _| .array _ _=>true|_=>false)=true) (hi:(P.info? D).map (·.size)=some A.size):
 (results fn j).run P w=.ok (.tuple #[.agg A,j.getD u undef]) w:=by
 rw[results_cell_tmp h,hp]
 simp[asAddr,run_loadVar_row w g t D A fr d F G hd hi,Result.andThen]
theorem zDA (s:RS)(u:ByteArray)(j:Int)(h:0≤j):((s.entry u j).2.2:Int)≤j:=zML _ 0 j h
def RS.ents:Nat→RS→ByteArray→Int→List (ByteArray×Nat)→RS×List (ByteArray×Nat)
 |0,s,_,_,acc=>(s,acc)
 |k+1,s,nm,left,acc=>RS.ents k (s.entry nm left).1 (s.entry nm left).2.1 (left-(s.entry nm left).2.2) (acc++[((s.entry nm left).2.1,(s.entry nm left).2.2)])
structure LT where
 st:RS
 K:Nat
 M:Nat
 C:Nat
 V:Nat
 es:List (ByteArray×Nat)
def RS.list (s:RS):LT:=
 let s0:=s.word ⟨#[86,76,84,49]⟩
 let a:=s0.num 1 255
 let b:=a.1.num 0 (255-(a.2:Int))
 let c:=b.1.num 1 64
 let d:=c.1.num 1 16
 let e:=d.1.num 0 16
 let l:=RS.ents e.2 e.1 ⟨#[]⟩ 4096 []
 ⟨l.1,a.2,b.2,c.2,d.2,l.2⟩
def enV (l:List (ByteArray×Nat)):List Value:=l.flatMap fun x=>[.string x.1,.int .i64 x.2]
theorem zBJ (l:List (ByteArray×Nat))(x:ByteArray×Nat):enV (l++[x])=enV l++[.string x.1,.int .i64 x.2]:=by simp[enV]
theorem zN3 (r:Nat)(s:RS)(w:World)(h:RI r s w):Calls Tryz.prog 130 #[.pointer (some ⟨r,0,none⟩)] w fun e w'=>∃v,e=.returned (.tuple #[.agg #[.int .i64 s.list.K,.int .i64 s.list.M,.int .i64 s.list.C,.int .i64 s.list.V],v])∧w'.ownsRow w.heap.size 131 2 v s.list.es.length (enV s.list.es)∧RDid r s.list.st w w':=by
 have f8:r<w.heap.size:=(Array.getElem?_eq_some_iff.1 h.row).1
 obtain⟨s0,b2⟩:∃s0,s.word ⟨#[86,76,84,49]⟩=s0:=⟨_,rfl⟩
 obtain⟨s1,b3⟩:∃x,(s0.num 1 255).1=x:=⟨_,rfl⟩
 obtain⟨K,hK⟩:∃x,(s0.num 1 255).2=x:=⟨_,rfl⟩
 obtain⟨s2,b4⟩:∃x,(s1.num 0 (255-(K:Int))).1=x:=⟨_,rfl⟩
 obtain⟨M,hM⟩:∃x,(s1.num 0 (255-(K:Int))).2=x:=⟨_,rfl⟩
 obtain⟨s3,b5⟩:∃x,(s2.num 1 64).1=x:=⟨_,rfl⟩
 obtain⟨C,hC⟩:∃x,(s2.num 1 64).2=x:=⟨_,rfl⟩
 obtain⟨s4,b6⟩:∃x,(s3.num 1 16).1=x:=⟨_,rfl⟩
 obtain⟨V,hV⟩:∃x,(s3.num 1 16).2=x:=⟨_,rfl⟩
 obtain⟨s5,b7⟩:∃x,(s4.num 0 16).1=x:=⟨_,rfl⟩
 obtain⟨n,hn⟩:∃x,(s4.num 0 16).2=x:=⟨_,rfl⟩
 obtain⟨T,hT⟩:∃T,RS.ents n s5 ⟨#[]⟩ 4096 []=T:=⟨_,rfl⟩
 have e:s.list=⟨T.1,K,M,C,V,T.2⟩:=by
  unfold RS.list
  simp only[b2,b3,hK,b4,hM,b5,hC,b6,hV,b7,hn,hT]
 rw[e]
 have dZ:K≤255:=by rw[←hK];exact zAn s0 1 255
 have f7:n≤16:=by rw[←hn];exact zAn s4 0 16
 have H0:Hid (∀X:World,RI r s X→Calls Tryz.prog 129 #[.pointer (some ⟨r,0,none⟩),.string ⟨#[86,76,84,49]⟩] X fun e w'=>e=.returned (.tuple #[])∧RDid r s0 X w'):=fun X hX=>by rw[←b2];exact zN6 r s _ X hX (by decide)
 have H1:Hid (∀X:World,RI r s0 X→Calls Tryz.prog 131 #[.pointer (some ⟨r,0,none⟩),.int .i64 1,.int .i64 255] X fun e w'=>e=.returned (.int .i64 K)∧RDid r s1 X w'):=fun X hX=>by rw[←b3,←hK];exact zKx r s0 1 255 X hX
 have H2:Hid (∀X:World,RI r s1 X→Calls Tryz.prog 131 #[.pointer (some ⟨r,0,none⟩),.int .i64 0,.int .i64 (255-(K:Int))] X fun e w'=>e=.returned (.int .i64 M)∧RDid r s2 X w'):=fun X hX=>by rw[←b4,←hM];exact zKx r s1 0 _ X hX
 have H3:Hid (∀X:World,RI r s2 X→Calls Tryz.prog 131 #[.pointer (some ⟨r,0,none⟩),.int .i64 1,.int .i64 64] X fun e w'=>e=.returned (.int .i64 C)∧RDid r s3 X w'):=fun X hX=>by rw[←b5,←hC];exact zKx r s2 1 64 X hX
 have H4:Hid (∀X:World,RI r s3 X→Calls Tryz.prog 131 #[.pointer (some ⟨r,0,none⟩),.int .i64 1,.int .i64 16] X fun e w'=>e=.returned (.int .i64 V)∧RDid r s4 X w'):=fun X hX=>by rw[←b6,←hV];exact zKx r s3 1 16 X hX
 have H5:Hid (∀X:World,RI r s4 X→Calls Tryz.prog 131 #[.pointer (some ⟨r,0,none⟩),.int .i64 0,.int .i64 16] X fun e w'=>e=.returned (.int .i64 n)∧RDid r s5 X w'):=fun X hX=>by rw[←b7,←hn];exact zKx r s4 0 16 X hX
 have HT:Hid _:=hT
 obtain⟨g,hg⟩:∃g,w.heap.size=g:=⟨_,rfl⟩
 have HG:Hid _:=hg
 obtain⟨W,hW⟩:∃W,w.alloc (.cells #[.int .i64 0,.int .i64 0,.int .i64 0,.int .i64 0] 81)=W:=⟨_,rfl⟩
 have a4:g≠r:=by omega
 have cP:Hid (RI r s W):=by show RI r s W;rw[←hW];exact h.low ((Below.refl _ _).alloc (Nat.le_refl _) _)
 have cJ:Hid (Fr (fun j=>j=r) w W):=by show Fr _ w W;rw[←hW];exact (Fr.refl _ w).alloc _
 have aR:W.heap[g]? =some (.cells #[.int .i64 0,.int .i64 0,.int .i64 0,.int .i64 0] 81 (0,0)):=by rw[←hW,←hg];exact heap_alloc_new _ _
 have D:Hid (∀(X Y:World) (cs:Array Value) (st:RS),X.heap[g]? =some (.cells cs 81 (0,0))→Fr (fun j=>j=r) w X→RDid r st X Y→Y.heap[g]? =some (.cells cs 81 (0,0))∧Fr (fun j=>j=r) w Y):=fun X Y cs st h1 h2 h3=>⟨by rw[h3.2.old g (Array.getElem?_eq_some_iff.1 h1).1 a4];exact h1,h2.trans' h3.2⟩
 have a5:Hid (∀(X:World) (cs:Array Value) (st:RS) (k:Nat) (v:Value),X.heap[g]? =some (.cells cs 81 (0,0))→Fr (fun j=>j=r) w X→RI r st X→(X.setCell ⟨g,k,none⟩ v).heap[g]? =some (.cells (cs.setIfInBounds k v) 81 (0,0))∧Fr (fun j=>j=r) w (X.setCell ⟨g,k,none⟩ v)∧RI r st (X.setCell ⟨g,k,none⟩ v)):=fun X cs st k v h1 h2 h3=>⟨zH _ _ _ _ _ _ _ h1,h2.set (g:=g) (.inr (by rw[HG.out];exact Nat.le_refl _)) _ _,⟨by rw[zC _ _ _ _ _ a4.symm];exact h3.row,h3.fn,h3.nt,h3.small⟩⟩
 have bL:Hid _:=aR
 obtain⟨i0,d7,z0,z1,z2⟩:=info_parts zHb
 clear h b2 b3 hK b4 hM b5 hC b6 hV b7 hn hT e aR
 go_enter Tryz.func130,Tryz.ntmps130
 go_wp2_with fail
 try rw[hW]
 try rw[hg]
 clear hW hg
 refine Calls.mono (H0.out _ cP.out) ?_
 rintro e w0 ⟨rfl,J⟩
 obtain⟨bU,bP⟩:=D.out _ _ _ _ bL.out cJ.out J
 have cT:Hid _:=bU
 have cD:Hid _:=bP
 have cK:Hid (RI r s0 w0):=J.1
 clear bU bP J
 go_wp2_with fail
 refine Calls.mono (H1.out _ cK.out) ?_
 rintro e U ⟨rfl,J⟩
 obtain⟨aN,bQ⟩:=D.out _ _ _ _ cT.out cD.out J
 have c0:U.cell? ⟨g,0,none⟩=some (.int .i64 0):=cell_of_row _ _ _ _ 81 _ aN
 have f0:=frozen_of_row U g 0 _ 81 aN
 obtain⟨a8,aF,aG⟩:=a5.out U _ s1 0 (.int .i64 K) aN bQ J.1
 obtain⟨X1,aX⟩:∃X,U.setCell ⟨g,0,none⟩ (.int .i64 K)=X:=⟨_,rfl⟩
 rw[aX]at a8 aF aG
 have d0:X1.cell? ⟨g,0,none⟩=some (.int .i64 K):=cell_of_row _ _ _ _ 81 _ a8
 have aI:Hid _:=a8
 have cE:Hid _:=aF
 have a1:Hid _:=aG
 have dG:IntKind.i64.wrap (255-(K:Int))=255-(K:Int):=by rw[IntKind.wrap_i64];omega
 clear J aN bQ a8 aF aG
 go_wp2_with fail
 try rw[aX]
 clear aX c0 f0
 refine Calls.mono (H2.out _ a1.out) ?_
 rintro e w2 ⟨rfl,J⟩
 obtain⟨Z,hf⟩:=D.out _ _ _ _ aI.out cE.out J
 have c1:w2.cell? ⟨g,1,none⟩=some (.int .i64 0):=cell_of_row _ _ _ _ 81 _ Z
 have f1:=frozen_of_row w2 g 1 _ 81 Z
 obtain⟨R,N,Q⟩:=a5.out w2 _ s2 1 (.int .i64 M) Z hf J.1
 obtain⟨X2,aY⟩:∃X,w2.setCell ⟨g,1,none⟩ (.int .i64 M)=X:=⟨_,rfl⟩
 rw[aY]at R N Q
 have cU:Hid _:=R
 have cF:Hid _:=N
 have cL:Hid _:=Q
 clear J Z hf R N Q
 clear d0
 go_wp2_with fail
 try rw[aY]
 clear aY c1 f1
 refine Calls.mono (H3.out _ cL.out) ?_
 rintro e w3 ⟨rfl,J⟩
 obtain⟨Z,hf⟩:=D.out _ _ _ _ cU.out cF.out J
 have c2:w3.cell? ⟨g,2,none⟩=some (.int .i64 0):=cell_of_row _ _ _ _ 81 _ Z
 have f2:=frozen_of_row w3 g 2 _ 81 Z
 obtain⟨R,N,Q⟩:=a5.out w3 _ s3 2 (.int .i64 C) Z hf J.1
 obtain⟨X3,aZ⟩:∃X,w3.setCell ⟨g,2,none⟩ (.int .i64 C)=X:=⟨_,rfl⟩
 rw[aZ]at R N Q
 have cV:Hid _:=R
 have cG:Hid _:=N
 have cM:Hid _:=Q
 clear J Z hf R N Q
 go_wp2_with fail
 try rw[aZ]
 clear aZ c2 f2
 refine Calls.mono (H4.out _ cM.out) ?_
 rintro e w4 ⟨rfl,J⟩
 obtain⟨Z,hf⟩:=D.out _ _ _ _ cV.out cG.out J
 have c3:w4.cell? ⟨g,3,none⟩=some (.int .i64 0):=cell_of_row _ _ _ _ 81 _ Z
 have f3:=frozen_of_row w4 g 3 _ 81 Z
 obtain⟨R,N,Q⟩:=a5.out w4 _ s4 3 (.int .i64 V) Z hf J.1
 obtain⟨X4,b0⟩:∃X,w4.setCell ⟨g,3,none⟩ (.int .i64 V)=X:=⟨_,rfl⟩
 rw[b0]at R N Q
 have cW:Hid _:=R
 have cH:Hid _:=N
 have cN:Hid _:=Q
 clear J Z hf R N Q
 go_wp2_with fail
 try rw[b0]
 clear b0 c3 f3
 refine Calls.mono (H5.out _ cN.out) ?_
 rintro e w5 ⟨rfl,J⟩
 obtain⟨Z,hf⟩:=D.out _ _ _ _ cW.out cH.out J
 have cX:Hid (w5.heap[g]? =some (.cells #[.int .i64 K,.int .i64 M,.int .i64 C,.int .i64 V] 81 (0,0))):=Z
 have cI:Hid _:=hf
 have cO:Hid _:=J.1
 have f4:g<w5.heap.size:=(Array.getElem?_eq_some_iff.1 Z).1
 clear J Z hf
 go_wp2_with fail
 go_loopw [3,5,6,7,28] (fun ev nv lv _ iv wr=>∃(i:Nat) (oo:Value) (st:RS) (nm:ByteArray) (A:Int) (G:List (ByteArray×Nat)),i≤n∧oo=ev∧nv=.string nm∧lv=.int .i64 A∧iv=.int .i64 i∧0≤A∧A≤4096∧G.length=i∧RS.ents (n-i) st nm A G=T∧wr.ownsRow g 131 2 oo i (enV G)∧RI r st wr∧Fr (fun j=>j=r) w wr∧wr.heap[g]? =some (.cells #[.int .i64 K,.int .i64 M,.int .i64 C,.int .i64 V] 81 (0,0))) (fun _ _ _ _ iv _=>n-(intOf iv).toNat)
 case atStart=>exact⟨0,_,s5,⟨#[]⟩,4096,[],by omega,rfl,rfl,rfl,rfl,by omega,by omega,rfl,HT.out,⟨rfl,.inl ⟨rfl,rfl⟩⟩,cO.out,cI.out,cX.out⟩
 case round=>
  obtain⟨i,oo,st,nm,A,G,hi,rfl,rfl,rfl,rfl,d9,f5,b1,aL,ho,hI,hF,hR⟩:=hrel
  obtain⟨ao,co,dC⟩:=zA ho
  subst dC
  have HO:Hid _:=ho
  have HF:Hid _:=hF
  have HR:Hid _:=hR
  have cC:Hid _:=aL
  have bF:Hid _:=b1
  have HI:Hid _:=hI
  have d6:g<wr.heap.size:=(Array.getElem?_eq_some_iff.1 hR).1
  by_cases f6:i<n
  ·have aP:Hid _:=zN0 r st nm A wr hI
   have dA:=zDA st nm A d9
   have hk:n-i=(n-(i+1))+1:=by omega
   have a6:=aL
   rw[hk,RS.ents]at a6
   obtain⟨bA,aS⟩:∃x,(st.entry nm A).1=x:=⟨_,rfl⟩
   obtain⟨F,aQ⟩:∃x,(st.entry nm A).2.1=x:=⟨_,rfl⟩
   obtain⟨ln,aH⟩:∃x,(st.entry nm A).2.2=x:=⟨_,rfl⟩
   rw[aS,aQ,aH]at aP a6
   rw[aH]at dA
   have bG:Hid _:=a6
   have dB:IntKind.i64.wrap (A-(ln:Int))=A-(ln:Int):=by rw[IntKind.wrap_i64];omega
   clear ho hI hF hR aL b1 a6 hk aS aQ aH
   go_wp2_with fail
   refine Calls.mono aP.out ?_
   rintro e U ⟨rfl,aA⟩
   have dH:=aA.2.size
   have aI:Hid (U.heap[g]? =some (.cells #[.int .i64 K,.int .i64 M,.int .i64 C,.int .i64 V] 81 (0,0))):=by show _=_;rw[aA.2.old g d6 a4];exact HR.out
   have a9:Hid (U.ownsRow g 131 2 (.slice ao i co) i (enV G)):=zD HO.out (fun q hq=>aA.2.old q (zG HO.out q hq) (fun e=>by
    obtain⟨cur,hc⟩:=zB HO.out q hq
    have h2:=HI.out.row
    rw[←e,hc]at h2;simp at h2))
   have a1:Hid (RI r bA U):=aA.1
   have bH:Hid (Fr (fun j=>j=r) w U):=HF.out.trans' aA.2
   have d5:g<U.heap.size:=by omega
   have cQ:Hid (∀j u,[Value.string F,.int .i64 ln][j]? =some u→((U.alloc (.cells #[.string F,.int .i64 ln] 131)).alloc (.cells #[.string F,.int .i64 ln] 131)).cell? ((⟨U.heap.size+1,0,none⟩:Addr).add j)=some u):=fun j u hj=>by
    have h:=zAU (U.alloc (.cells #[.string F,.int .i64 ln] 131)) [.string F,.int .i64 ln] 131 j u hj
    have e:(U.alloc (.cells #[.string F,.int .i64 ln] 131)).heap.size=U.heap.size+1:=by simp
    rw[e]at h
    exact h
   clear aA
   go_wp2_with (at_builtin;refine wpList_append_own _ rfl (.tmp 34) (.tmp 36) 82 rfl g 131 i0 (.agg #[.string ⟨#[]⟩,.int .i64 0]) 2 24 Tryz.underlying82 d7 z0 z1 z2 rfl (by decide) (.slice ao i co) i (enV G) (by simp[Act.eval]) ((a9.out.alloc _).alloc _) ⟨U.heap.size+1,0,none⟩ 1 1 [.string F,.int .i64 ln] (by simp[Act.eval]) rfl cQ.out (by intro u hu;simp at hu;rcases hu with rfl|rfl<;>rfl) (by unfold maxLen;omega) (by omega) (by simp;omega) ?_;intro v2 w2 hO2 hG2 _;obtain⟨a2,k2,hv2⟩:=zA hO2;subst hv2;have aW:w2.heap[U.heap.size]? =some (.cells #[.string F,.int .i64 ln] 131 (0,0)):=(by rw[hG2.block _ (by simp;try omega) (fun e=>by have:=zG a9.out _ e.symm;omega),heap_alloc_old _ _ (by simp;try omega),heap_alloc_new]);have m0:w2.cell? ⟨U.heap.size,0,none⟩=some (.string F):=cell_of_row _ _ _ _ 131 _ aW;have m1:w2.cell? ⟨U.heap.size,1,none⟩=some (.int .i64 ln):=cell_of_row _ _ _ _ 131 _ aW;have cR:Hid _:=hO2;have bJ:Hid _:=hG2;clear aW hO2 hG2)
   go_roundw
   case rel=>
    have aB:∀q,(Value.slice ao i co).ownBlock=some q→q<U.heap.size∧q≠r:=fun q hq=>⟨zG a9.out q hq,fun e=>by
     obtain⟨cur,hc⟩:=zB a9.out q hq
     have h2:=a1.out.row
     rw[←e,hc]at h2;simp at h2⟩
    have bT:∀j,j<U.heap.size→(Value.slice ao i co).ownBlock≠some j→w2.heap[j]? =U.heap[j]? :=fun j hj hn=>by
     rw[bJ.out.block j (by simp;omega) (fun e=>hn e.symm),heap_alloc_old _ _ (by simp;omega),heap_alloc_old _ _ hj]
    have bV:r<U.heap.size:=(Array.getElem?_eq_some_iff.1 a1.out.row).1
    have bS:i+1≤n∧0≤A-(ln:Int)∧A-(ln:Int)≤4096∧(G++[(F,ln)]).length=i+1∧w2.ownsRow g 131 2 (.slice a2 (i+1) k2) (i+1) (enV (G++[(F,ln)]))∧RI r bA w2∧Fr (fun j=>j=r) w w2∧w2.heap[g]? =some (.cells #[.int .i64 K,.int .i64 M,.int .i64 C,.int .i64 V] 81 (0,0)):=by
     refine⟨by omega,by omega,by omega,by rw[List.length_append,bF.out];rfl,by rw[zBJ];exact cR.out,⟨?_,a1.out.fn,a1.out.nt,a1.out.small⟩,?_,?_⟩
     ·rw[bT r bV (fun e=>(aB r e).2 rfl)];exact a1.out.row
     ·exact ((bH.out.alloc _).alloc _).grown bJ.out (fun q hq=>.inr (by have:=zK a9.out q hq;rw[HG.out];exact this))
     ·rw[bT g d5 (fun e=>by obtain⟨cur,hc⟩:=zB a9.out g e;rw[aI.out]at hc;simp at hc)];exact aI.out
    obtain⟨y1,y2,y3,y4,y5,y6,y7,y8⟩:=bS
    exact⟨i+1,_,bA,F,A-ln,G++[(F,ln)],y1,rfl,rfl,rfl,by go_num,y2,y3,y4,bG.out,y5,y6,y7,y8⟩
   case measure=>simp[intOf];omega
  ·have ei:i=n:=by omega
   subst ei
   have bM:T=(st,G):=by have:=cC.out;rw[Nat.sub_self]at this;exact this.symm
   have p0:wr.cell? ⟨g,0,none⟩=some (.int .i64 K):=cell_of_row _ _ _ _ 81 _ hR
   have p1:wr.cell? ⟨g,1,none⟩=some (.int .i64 M):=cell_of_row _ _ _ _ 81 _ hR
   have p2:wr.cell? ⟨g,2,none⟩=some (.int .i64 C):=cell_of_row _ _ _ _ 81 _ hR
   have p3:wr.cell? ⟨g,3,none⟩=some (.int .i64 V):=cell_of_row _ _ _ _ 81 _ hR
   have q0:=frozen_of_row wr g 0 _ 81 hR
   have q1:=frozen_of_row wr g 1 _ 81 hR
   have q2:=frozen_of_row wr g 2 _ 81 hR
   have q3:=frozen_of_row wr g 3 _ 81 hR
   have aE:Hid _:=bM
   clear ho hI hF hR aL b1 bM
   go_wp2
   have d2:=zH _ _ 3 (.int .i64 V) _ _ _ (zH _ _ 2 (.int .i64 C) _ _ _ (zH _ _ 1 (.int .i64 M) _ _ _ (zH _ _ 0 (.int .i64 K) _ _ _ HR.out)))
   have aM:w.heap.size≤g:=by rw[HG.out];exact Nat.le_refl _
   refine bodyPost_ret (v:=.tuple #[.agg #[.int .i64 K,.int .i64 M,.int .i64 C,.int .i64 V],.slice ao i co]) ?_ rfl ?_
   ·exact zCS Tryz.results130 _ _ g 81 _ (0,0) _ rfl d2 Tryz.underlying81 rfl (by kernel_rfl)
   ·refine⟨.slice ao i co,rfl,?_,⟨?_,?_,?_,?_⟩,?_⟩
    ·rw[aE.out]
     show World.ownsRow _ w.heap.size 131 2 _ G.length (enV G)
     rw[bF.out,HG.out]
     have aB:∀q,(Value.slice ao i co).ownBlock=some q→q≠g:=fun q hq e=>by
      obtain⟨cur,hc⟩:=zB HO.out q hq
      rw[e,HR.out]at hc;simp at hc
     exact zD HO.out (fun q hq=>by rw[zC _ _ _ _ _ (aB q hq),zC _ _ _ _ _ (aB q hq),zC _ _ _ _ _ (aB q hq),zC _ _ _ _ _ (aB q hq)])
    ·rw[aE.out,zC _ _ _ _ _ a4.symm,zC _ _ _ _ _ a4.symm,zC _ _ _ _ _ a4.symm,zC _ _ _ _ _ a4.symm];exact HI.out.row
    ·rw[aE.out];exact HI.out.fn
    ·rw[aE.out];exact HI.out.nt
    ·rw[aE.out];exact HI.out.small
    ·exact (((HF.out.set (g:=g) (.inr aM) 0 _).set (g:=g) (.inr aM) 1 _).set (g:=g) (.inr aM) 2 _).set (g:=g) (.inr aM) 3 _
end Go.Proofs.YtlopecgkiikdhaaGreatDoor
