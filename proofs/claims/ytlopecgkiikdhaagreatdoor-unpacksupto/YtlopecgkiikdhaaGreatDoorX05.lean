import Derived.Test.YtlopecgkiikdhaaGreatDoorX04
import Derived.Lib.Walk
import Derived.Lib.AppendZerosOnto
namespace Go.Proofs.YtlopecgkiikdhaaGreatDoor
open Go.RowKit
set_option maxRecDepth 100000
set_option maxHeartbeats 4000000
theorem zK7 (t:ByteArray):∀(k i sum:Nat),(vrF t i sum k).2≤t.size∧(vrF t i sum k).1≤4294967295
 |0,i,sum=>by simp[vrF]
 |k+1,i,sum=>by
  rw[vrF]
  split
  ·split
   ·exact zK7 t k _ _
   ·split
    ·simp
    ·rename_i h1 h2 h3
     exact⟨h1,by simp only[not_or]at h3;show sum+t[i].toNat %128*128 ^ i≤4294967295;omega⟩
  ·simp
theorem zK8 (t:ByteArray):(vrd t).2≤t.size∧(vrd t).1≤4294967295:=zK7 t 5 0 0
def RS.num (s:RS)(lo:Nat)(hi:Int):RS×Nat:=
 if s.wrong then (s,0) else
  if (vrd (s.text.extract s.next s.text.size)).2=0∨(vrd (s.text.extract s.next s.text.size)).1<lo∨hi<((vrd (s.text.extract s.next s.text.size)).1:Int) then ({ s with field:=s.next,wrong:=true },0)
  else ({ s with field:=s.next,next:=s.next+(vrd (s.text.extract s.next s.text.size)).2 },(vrd (s.text.extract s.next s.text.size)).1)
theorem zKx (r:Nat)(s:RS)(lo:Nat)(hi:Int)(w:World)(h:RI r s w):Calls Tryz.prog 131 #[.pointer (some ⟨r,0,none⟩),.int .i64 lo,.int .i64 hi] w fun e w'=>e=.returned (.int .i64 (s.num lo hi).2)∧RDid r (s.num lo hi).1 w w':=by
 have HB:Hid _:=zPl r s w h
 have aO:=h.nt
 have aF:=h.small
 cases hw:s.wrong with
 |true=>
  have e1:s.num lo hi=(s,0):=by unfold RS.num;rw[hw];rfl
  have e2:s.begin=s:=by unfold RS.begin;rw[hw];rfl
  rw[e1]
  rw[hw,e2]at HB
  clear h e1 e2
  go_enter Tryz.func131,Tryz.ntmps131
  go_wp2_with fail
  refine Calls.mono HB.out ?_
  rintro e N ⟨rfl,X⟩
  have HD:Hid _:=X
  clear X
  go_wp2
  go_ret
  exact⟨rfl,HD.out⟩
 |false=>
  rw[hw]at HB
  have aB:=zK8 (s.text.extract s.next s.text.size)
  have HV:Hid (∀V:World,Calls Tryz.prog 167 #[.string (s.text.extract s.next s.text.size)] V fun e w'=>e=.returned (.tuple #[.int .u32 (vrd (s.text.extract s.next s.text.size)).1,.int .i64 (vrd (s.text.extract s.next s.text.size)).2])∧w'=V):=fun V=>zPX _ V (by rw[ByteArray.size_extract];omega)
  have a9:(s.text.extract s.next s.text.size).size=s.text.size-s.next:=by rw[ByteArray.size_extract];omega
  rw[a9]at aB
  have a1:s.num lo hi=if (vrd (s.text.extract s.next s.text.size)).2=0∨(vrd (s.text.extract s.next s.text.size)).1<lo∨hi<((vrd (s.text.extract s.next s.text.size)).1:Int) then ({ s with field:=s.next,wrong:=true },0) else ({ s with field:=s.next,next:=s.next+(vrd (s.text.extract s.next s.text.size)).2 },(vrd (s.text.extract s.next s.text.size)).1):=by
   unfold RS.num;rw[hw];rfl
  obtain⟨v,hv⟩:∃v,(vrd (s.text.extract s.next s.text.size)).1=v:=⟨_,rfl⟩
  obtain⟨l,hl⟩:∃l,(vrd (s.text.extract s.next s.text.size)).2=l:=⟨_,rfl⟩
  rw[hv,hl]at aB HV a1
  have aQ:IntKind.i64.wrap (v:Int)=(v:Int):=by rw[IntKind.wrap_i64];omega
  have aN:(s.next:Int)≤(s.text.size:Int):=by omega
  have aM:(0:Int)≤(s.next:Int):=by omega
  have HW:Hid _:=hw
  clear h a9 hv hl
  by_cases G:l=0∨v<lo∨hi<(v:Int)
  ·rw[a1,if_pos G]
   clear a1
   by_cases a2:l=0
   ·have aA:((l:Int) == 0)=true:=by simp[a2]
    clear G a2
    go_enter Tryz.func131,Tryz.ntmps131
    go_wp2_with fail
    refine Calls.mono HB.out ?_
    rintro e N ⟨rfl,X⟩
    have u:=RI.begin HW.out X
    have c0:=u.1.c0
    have c2:=u.1.c2
    have F:Hid _:=u
    clear X u
    go_wp2_with fail
    go_region_held3 (fun W=>W.cell? ⟨r,0,none⟩=some (.string s.text)∧W.cell? ⟨r,2,none⟩=some (.int .i64 s.next)) (go_keep) ((go_at_call 167;refine Calls.mono (HV.out _) ?_;rintro e W ⟨rfl,rfl⟩))
    obtain⟨V,U⟩:∃V,N.drew=V:=⟨_,rfl⟩
    have D:Hid (Below N.heap.size N V):=by show Below _ _ _;rw[←U];exact (Below.refl _ _).drew
    rw[U]
    have A:=RI.low F.out.1 D.out
    have d2:=A.c2
    have g2:=A.fz 2
    have R:Hid _:=A
    have Q:Hid (Fr (fun j=>j=r) w V):=F.out.2.thenBelow D.out
    clear U c0 c2 A
    have HR:Hid (Calls Tryz.prog 132 #[.pointer (some ⟨r,0,none⟩)] V fun e w'=>e=.returned (.tuple #[])∧RDid r { s with field:=s.next,wrong:=true } w w'):=by
     refine (zBC r _ V R.out).mono ?_
     rintro e w' ⟨rfl,J⟩
     exact⟨rfl,J.1,Q.out.trans' J.2⟩
    go_wp2_with fail
    refine Calls.mono HR.out ?_
    rintro e w3 ⟨rfl,J⟩
    have Z:Hid _:=J
    clear J
    go_wp2
    go_ret
    exact⟨rfl,Z.out⟩
   ·have aA:((l:Int) == 0)=false:=by simp;omega
    by_cases aP:v<lo
    ·have aC:(v:Int)<(lo:Int):=by omega
     clear G a2
     go_enter Tryz.func131,Tryz.ntmps131
     go_wp2_with fail
     refine Calls.mono HB.out ?_
     rintro e N ⟨rfl,X⟩
     have u:=RI.begin HW.out X
     have c0:=u.1.c0
     have c2:=u.1.c2
     have F:Hid _:=u
     clear X u
     go_wp2_with fail
     go_region_held3 (fun W=>W.cell? ⟨r,0,none⟩=some (.string s.text)∧W.cell? ⟨r,2,none⟩=some (.int .i64 s.next)) (go_keep) ((go_at_call 167;refine Calls.mono (HV.out _) ?_;rintro e W ⟨rfl,rfl⟩))
     obtain⟨V,U⟩:∃V,N.drew=V:=⟨_,rfl⟩
     have D:Hid (Below N.heap.size N V):=by show Below _ _ _;rw[←U];exact (Below.refl _ _).drew
     rw[U]
     have A:=RI.low F.out.1 D.out
     have d2:=A.c2
     have g2:=A.fz 2
     have R:Hid _:=A
     have Q:Hid (Fr (fun j=>j=r) w V):=F.out.2.thenBelow D.out
     clear U c0 c2 A
     have HR:Hid (Calls Tryz.prog 132 #[.pointer (some ⟨r,0,none⟩)] V fun e w'=>e=.returned (.tuple #[])∧RDid r { s with field:=s.next,wrong:=true } w w'):=by
      refine (zBC r _ V R.out).mono ?_
      rintro e w' ⟨rfl,J⟩
      exact⟨rfl,J.1,Q.out.trans' J.2⟩
     go_wp2_with fail
     refine Calls.mono HR.out ?_
     rintro e w3 ⟨rfl,J⟩
     have Z:Hid _:=J
     clear J
     go_wp2
     go_ret
     exact⟨rfl,Z.out⟩
    ·have aC:¬((v:Int)<(lo:Int)):=by omega
     have aE:(v:Int)>hi:=by omega
     clear G a2
     go_enter Tryz.func131,Tryz.ntmps131
     go_wp2_with fail
     refine Calls.mono HB.out ?_
     rintro e N ⟨rfl,X⟩
     have u:=RI.begin HW.out X
     have c0:=u.1.c0
     have c2:=u.1.c2
     have F:Hid _:=u
     clear X u
     go_wp2_with fail
     go_region_held3 (fun W=>W.cell? ⟨r,0,none⟩=some (.string s.text)∧W.cell? ⟨r,2,none⟩=some (.int .i64 s.next)) (go_keep) ((go_at_call 167;refine Calls.mono (HV.out _) ?_;rintro e W ⟨rfl,rfl⟩))
     obtain⟨V,U⟩:∃V,N.drew=V:=⟨_,rfl⟩
     have D:Hid (Below N.heap.size N V):=by show Below _ _ _;rw[←U];exact (Below.refl _ _).drew
     rw[U]
     have A:=RI.low F.out.1 D.out
     have d2:=A.c2
     have g2:=A.fz 2
     have R:Hid _:=A
     have Q:Hid (Fr (fun j=>j=r) w V):=F.out.2.thenBelow D.out
     clear U c0 c2 A
     have HR:Hid (Calls Tryz.prog 132 #[.pointer (some ⟨r,0,none⟩)] V fun e w'=>e=.returned (.tuple #[])∧RDid r { s with field:=s.next,wrong:=true } w w'):=by
      refine (zBC r _ V R.out).mono ?_
      rintro e w' ⟨rfl,J⟩
      exact⟨rfl,J.1,Q.out.trans' J.2⟩
     go_wp2_with fail
     refine Calls.mono HR.out ?_
     rintro e w3 ⟨rfl,J⟩
     have Z:Hid _:=J
     clear J
     go_wp2
     go_ret
     exact⟨rfl,Z.out⟩
  ·rw[a1,if_neg G]
   clear a1
   have aA:((l:Int) == 0)=false:=by simp;omega
   have aC:¬((v:Int)<(lo:Int)):=by omega
   have aE:¬((v:Int)>hi):=by omega
   have aI:IntKind.i64.wrap ((s.next:Int)+(l:Int))=(s.next:Int)+(l:Int):=by rw[IntKind.wrap_i64];omega
   clear G
   go_enter Tryz.func131,Tryz.ntmps131
   go_wp2_with fail
   refine Calls.mono HB.out ?_
   rintro e N ⟨rfl,X⟩
   have u:=RI.begin HW.out X
   have c0:=u.1.c0
   have c2:=u.1.c2
   have F:Hid _:=u
   clear X u
   go_wp2_with fail
   go_region_held3 (fun W=>W.cell? ⟨r,0,none⟩=some (.string s.text)∧W.cell? ⟨r,2,none⟩=some (.int .i64 s.next)) (go_keep) ((go_at_call 167;refine Calls.mono (HV.out _) ?_;rintro e W ⟨rfl,rfl⟩))
   obtain⟨V,U⟩:∃V,N.drew=V:=⟨_,rfl⟩
   have D:Hid (Below N.heap.size N V):=by show Below _ _ _;rw[←U];exact (Below.refl _ _).drew
   rw[U]
   have A:=RI.low F.out.1 D.out
   have d2:=A.c2
   have g2:=A.fz 2
   have R:Hid _:=A
   have Q:Hid (Fr (fun j=>j=r) w V):=F.out.2.thenBelow D.out
   clear U c0 c2 A
   have HF:Hid (RDid r { s with field:=s.next,next:=s.next+l } w (V.setCell ⟨r,2,none⟩ (.int .i64 ((s.next:Int)+(l:Int))))):=by
    have a5:=zH V r 2 (.int .i64 ((s.next:Int)+(l:Int))) _ _ _ R.out.row
    refine⟨?_,Q.out.set (g:=r) (.inl rfl) 2 _⟩
    rw[show (s.next:Int)+(l:Int)=((s.next+l:Nat):Int) by omega]at a5 ⊢
    exact⟨a5,by simp,by show s.next+l≤s.text.size;omega,aF⟩
   go_wp2
   go_ret
   have a4:=HF.out
   rw[HW.out]at a4
   exact⟨rfl,a4⟩
def atC (s:RS):Nat:=if s.wrong=true then s.field else s.next
def cuC (s:RS):Array Value:= #[.string s.text,.int .i64 (atC s:Nat),.bool s.wrong]
structure CR (c:Nat)(s:RS)(w:World):Prop where
 row:w.heap[c]? =some (.cells (cuC s) 124 (0,0))
 nt:s.next≤s.text.size
 small:s.text.size≤1000000000
def zCn (c:Nat)(s:RS)(w w':World):Prop:=CR c s w'∧Fr (fun j=>j=c) w w'
theorem CR.below {c:Nat}{s:RS}{w w':World}(h:CR c s w)(hb:Below w.heap.size w w'):CR c s w':=⟨by rw[hb.block c (Array.getElem?_eq_some_iff.1 h.row).1];exact h.row,h.nt,h.small⟩
theorem zHI (c:Nat)(s:RS)(n:Nat)(w:World)(h:CR c s w)(hn:n≤1000000000):
 Calls Tryz.prog 46 #[.pointer (some ⟨c,0,none⟩),.int .i64 n] w fun e w'=>e=.returned (.string (s.bytes n).2)∧zCn c (s.bytes n).1 w w':=by
 have c0:w.cell? ⟨c,0,none⟩=some (.string s.text):=cell_of_row _ _ _ _ 124 _ h.row
 have c1:w.cell? ⟨c,1,none⟩=some (.int .i64 (atC s:Nat)):=cell_of_row _ _ _ _ 124 _ h.row
 have c2:w.cell? ⟨c,2,none⟩=some (.bool s.wrong):=cell_of_row _ _ _ _ 124 _ h.row
 have f1:=frozen_of_row w c 1 _ 124 h.row
 have R:=frozen_of_row w c 2 _ 124 h.row
 have N:Hid (CR c s w):=h
 have Z:=h.nt
 have a2:=h.small
 clear h
 obtain⟨text,field,next,wrong⟩:=s
 cases wrong
 ·have e1:atC ⟨text,field,next,false⟩=next:=rfl
  rw[e1]at c1
  have a1:next≤text.size:=Z
  have D:text.size≤1000000000:=a2
  clear Z a2
  by_cases U:text.size-next<n
  ·have X:(text.size:Int)-(next:Int)<(n:Int):=by omega
   have u1:IntKind.i64.wrap ((text.size:Int)-(next:Int))=(text.size:Int)-(next:Int):=by rw[IntKind.wrap_i64];omega
   have F:Hid (RS.bytes ⟨text,field,next,false⟩ n=(⟨text,next,next,true⟩,⟨#[]⟩)):=by
    show _=_
    unfold RS.bytes
    simp[U]
   go_enter Tryz.func46,Tryz.ntmps46
   go_wp2_with fail
   go_quiet (fail)
   obtain⟨W,u⟩:∃W,w.drewN nq=W:=⟨_,rfl⟩
   have g2:W.cell? ⟨c,2,none⟩=some (.bool false):=by rw[←u];exact c2
   have k2:W.frozen? ⟨c,2,none⟩=false:=by rw[←u];exact R
   have Q:Hid (W.heap[c]? =some (.cells (cuC ⟨text,field,next,false⟩) 124 (0,0))):=by show _=_;rw[←u];exact N.out.row
   have J:Hid (Fr (fun j=>j=c) w W):=by show Fr _ _ _;rw[←u];exact Fr.below (below_drewN (Below.refl _ _) _)
   rw[u]
   clear u c0 c1 c2 f1 R
   go_wp2_with fail
   go_ret
   rw[F.out]
   exact⟨rfl,⟨zH _ _ 2 _ _ _ _ Q.out,a1,D⟩,J.out.set (.inl rfl) _ _⟩
  ·have X:¬(text.size:Int)-(next:Int)<(n:Int):=by omega
   have u1:IntKind.i64.wrap ((text.size:Int)-(next:Int))=(text.size:Int)-(next:Int):=by rw[IntKind.wrap_i64];omega
   have u2:IntKind.i64.wrap ((next:Int)+(n:Int))=((next+n:Nat):Int):=by rw[IntKind.wrap_i64];omega
   have F:Hid (RS.bytes ⟨text,field,next,false⟩ n=(⟨text,next,next+n,false⟩,text.extract next (next+n))):=by
    show _=_
    unfold RS.bytes
    simp[U]
   obtain⟨m,hm⟩:∃m,next+n=m:=⟨_,rfl⟩
   rw[hm]at u2 F
   have em:(next:Int)+(n:Int)=(m:Int):=by omega
   have k1:(0:Int)≤(next:Int):=by omega
   have k2:(next:Int)≤(m:Int):=by omega
   have k3:(m:Int)≤(text.size:Int):=by omega
   have HM:Hid (m≤text.size):=by show m≤_;omega
   clear hm
   go_enter Tryz.func46,Tryz.ntmps46
   go_wp2_with fail
   go_quiet (fail)
   obtain⟨W,u⟩:∃W,w.drewN nq=W:=⟨_,rfl⟩
   have g0:W.cell? ⟨c,0,none⟩=some (.string text):=by rw[←u];exact c0
   have g1:W.cell? ⟨c,1,none⟩=some (.int .i64 next):=by rw[←u];exact c1
   have l1:W.frozen? ⟨c,1,none⟩=false:=by rw[←u];exact f1
   have Q:Hid (W.heap[c]? =some (.cells (cuC ⟨text,field,next,false⟩) 124 (0,0))):=by show _=_;rw[←u];exact N.out.row
   have J:Hid (Fr (fun j=>j=c) w W):=by show Fr _ _ _;rw[←u];exact Fr.below (below_drewN (Below.refl _ _) _)
   rw[u]
   clear u c0 c1 c2 f1 R
   go_wp2_with fail
   go_quiet (fail)
   obtain⟨G,A⟩:∃G,W.drewN nq=G:=⟨_,rfl⟩
   have i1:G.cell? ⟨c,1,none⟩=some (.int .i64 next):=by rw[←A];exact g1
   have j1:G.frozen? ⟨c,1,none⟩=false:=by rw[←A];exact l1
   have a6:Hid (G.heap[c]? =some (.cells (cuC ⟨text,field,next,false⟩) 124 (0,0))):=by show _=_;rw[←A];exact Q.out
   have a5:Hid (Fr (fun j=>j=c) w G):=by show Fr _ _ _;rw[←A];exact J.out.thenBelow (below_drewN (Below.refl _ _) _)
   rw[A]
   clear A g0 g1 l1
   go_wp2_with fail
   go_ret
   rw[F.out]
   exact⟨rfl,⟨zH _ _ 1 _ _ _ _ a6.out,HM.out,D⟩,a5.out.set (.inl rfl) _ _⟩
 ·have F:Hid (RS.bytes ⟨text,field,next,true⟩ n=(⟨text,field,next,true⟩,⟨#[]⟩)):=rfl
  go_enter Tryz.func46,Tryz.ntmps46
  go_wp2_with fail
  go_quiet (fail)
  obtain⟨W,u⟩:∃W,w.drewN nq=W:=⟨_,rfl⟩
  have g2:W.cell? ⟨c,2,none⟩=some (.bool true):=by rw[←u];exact c2
  have k2:W.frozen? ⟨c,2,none⟩=false:=by rw[←u];exact R
  have Q:Hid (W.heap[c]? =some (.cells (cuC ⟨text,field,next,true⟩) 124 (0,0))):=by show _=_;rw[←u];exact N.out.row
  have J:Hid (Fr (fun j=>j=c) w W):=by show Fr _ _ _;rw[←u];exact Fr.below (below_drewN (Below.refl _ _) _)
  rw[u]
  clear u c0 c1 c2 f1 R
  go_wp2_with fail
  go_ret
  rw[F.out]
  exact⟨rfl,⟨zH _ _ 2 _ _ _ _ Q.out,N.out.nt,N.out.small⟩,J.out.set (.inl rfl) _ _⟩
def leT (a b:ByteArray):Bool:=Op.bytesLess a.toList b.toList||a.toList == b.toList
def RS.entry (s:RS)(before:ByteArray)(longest:Int):RS×ByteArray×Nat:=
 let p:=(s.num 1 255).1.bytes (s.num 1 255).2
 let q:=(if leT p.2 before then p.1.refuse else p.1).num 0 longest
 (q.1,p.2,q.2)
theorem zAn (s:RS)(lo:Nat)(hi:Nat):(s.num lo hi).2≤hi:=by
 unfold RS.num
 split
 ·simp
 ·split
  ·simp
  ·rename_i h
   simp only[not_or]at h
   show (vrd (s.text.extract s.next s.text.size)).1≤hi
   omega
theorem zN0 (r:Nat)(s:RS)(u:ByteArray)(A:Int)(w:World)(h:RI r s w):Calls Tryz.prog 166 #[.pointer (some ⟨r,0,none⟩),.string u,.int .i64 A] w fun e w'=>e=.returned (.agg #[.string (s.entry u A).2.1,.int .i64 (s.entry u A).2.2])∧RDid r (s.entry u A).1 w w':=by
 have aV:r<w.heap.size:=(Array.getElem?_eq_some_iff.1 h.row).1
 have hn:(s.num 1 255).2≤255:=zAn s 1 255
 obtain⟨s1,a9⟩:∃s1,(s.num 1 255).1=s1:=⟨_,rfl⟩
 obtain⟨n1,a1⟩:∃n1,(s.num 1 255).2=n1:=⟨_,rfl⟩
 obtain⟨s2,aA⟩:∃s2,(s1.bytes n1).1=s2:=⟨_,rfl⟩
 obtain⟨nm,a8⟩:∃nm,(s1.bytes n1).2=nm:=⟨_,rfl⟩
 obtain⟨Z,aB⟩:∃Z,(if leT nm u then s2.refuse else s2)=Z:=⟨_,rfl⟩
 obtain⟨s4,aC⟩:∃s4,(Z.num 0 A).1=s4:=⟨_,rfl⟩
 obtain⟨ln,a7⟩:∃ln,(Z.num 0 A).2=ln:=⟨_,rfl⟩
 have e:s.entry u A=(s4,nm,ln):=by
  unfold RS.entry
  simp only[a9,a1,aA,a8,aB,aC,a7]
 rw[e]
 rw[a1]at hn
 have aM:RI r s (w.alloc (.cells #[.string ⟨#[]⟩,.int .i64 0] 131)):=h.low ((Below.refl _ _).alloc (Nat.le_refl _) _)
 have H1:Hid _:=zKx r s 1 255 (w.alloc (.cells #[.string ⟨#[]⟩,.int .i64 0] 131)) aM
 rw[a9,a1]at H1
 have H2:Hid (∀V:World,RI r s1 V→Calls Tryz.prog 96 #[.pointer (some ⟨r,0,none⟩),.int .i64 n1] V fun e w'=>e=.returned (.string nm)∧RDid r s2 V w'):=fun V hV=>by
  have:=zCy r s1 n1 V hV (by omega)
  rw[aA,a8]at this
  exact this
 have H3:Hid (∀V:World,RI r Z V→Calls Tryz.prog 131 #[.pointer (some ⟨r,0,none⟩),.int .i64 0,.int .i64 A] V fun e w'=>e=.returned (.int .i64 ln)∧RDid r s4 V w'):=fun V hV=>by
  have:=zKx r Z 0 A V hV
  rw[aC,a7]at this
  exact this
 have aH:Hid _:=aB
 have R:(w.alloc (.cells #[.string ⟨#[]⟩,.int .i64 0] 131)).heap[w.heap.size]? =some (.cells #[.string ⟨#[]⟩,.int .i64 0] 131 (0,0)):=heap_alloc_new _ _
 have a6:Hid (Fr (fun j=>j=r) w (w.alloc (.cells #[.string ⟨#[]⟩,.int .i64 0] 131))):=(Fr.refl _ w).alloc _
 obtain⟨W,hW⟩:∃W,w.alloc (.cells #[.string ⟨#[]⟩,.int .i64 0] 131)=W:=⟨_,rfl⟩
 obtain⟨g,hg⟩:∃g,w.heap.size=g:=⟨_,rfl⟩
 have HG:Hid _:=hg
 rw[hW]at H1 R a6
 rw[hg]at R aV
 have aU:g<W.heap.size:=(Array.getElem?_eq_some_iff.1 R).1
 have X:g≠r:=by omega
 have aR:Hid _:=R
 have a4:Hid (∀V,Fr (fun j=>j=r) W V→V.heap[g]? =some (.cells #[.string ⟨#[]⟩,.int .i64 0] 131 (0,0))):=fun V hV=>by rw[hV.old g aU X];exact aR.out
 clear h a9 a1 aA a8 aB aC a7 e aM R
 go_enter Tryz.func166,Tryz.ntmps166
 go_wp2_with fail
 try rw[hW]
 try rw[hg]
 clear hW hg
 refine Calls.mono H1.out ?_
 rintro e w1 ⟨rfl,aJ⟩
 have aG:Hid _:=aJ
 clear aJ
 go_wp2_with fail
 refine Calls.mono (H2.out _ aG.out.1) ?_
 rintro e w2 ⟨rfl,aK⟩
 have a5:Hid (RDid r s2 W w2):=RDid.then aG.out aK
 clear aK
 cases hle:leT nm u with
 |true=>
  have aO:(Op.bytesLess nm.toList u.toList||nm.toList == u.toList)=true:=hle
  have e3:s2.refuse=Z:=by rw[←aH.out,hle];rfl
  have HR:Hid _:=zBC r s2 w2 a5.out.1
  rw[e3]at HR
  clear e3
  go_wp2_with fail
  refine Calls.mono HR.out ?_
  rintro e w3 ⟨rfl,aL⟩
  have J:Hid (RDid r Z W w3):=RDid.then a5.out aL
  clear aL
  go_wp2_with fail
  refine Calls.mono (H3.out _ J.out.1) ?_
  rintro e G ⟨rfl,Q⟩
  have F:Hid (RDid r s4 W G):=RDid.then J.out Q
  have D:=a4.out G F.out.2
  have c0:G.cell? ⟨g,0,none⟩=some (.string ⟨#[]⟩):=cell_of_row _ _ _ _ 131 _ D
  have c1:G.cell? ⟨g,1,none⟩=some (.int .i64 0):=cell_of_row _ _ _ _ 131 _ D
  have f0:=frozen_of_row G g 0 _ 131 D
  have f1:=frozen_of_row G g 1 _ 131 D
  have N:Hid _:=D
  clear Q D
  go_wp2
  have hR:((G.setCell ⟨g,0,none⟩ (.string nm)).setCell ⟨g,1,none⟩ (.int .i64 ln)).heap[g]? =some (.cells #[.string nm,.int .i64 ln] 131 (0,0)):=zH _ _ 1 _ _ _ _ (zH _ _ 0 _ _ _ _ N.out)
  refine bodyPost_ret (v:=.agg #[.string nm,.int .i64 ln]) ?_ rfl ?_
  ·exact results_cell_row Tryz.results166 _ _ g 131 _ (0,0) _ rfl hR Tryz.underlying131 rfl (by kernel_rfl)
  ·refine⟨rfl,⟨?_,F.out.1.fn,F.out.1.nt,F.out.1.small⟩,?_⟩
   ·rw[zC _ _ _ _ _ X.symm,zC _ _ _ _ _ X.symm];exact F.out.1.row
   ·have U:w.heap.size≤g:=by rw[HG.out];exact Nat.le_refl _
    exact ((a6.out.trans' F.out.2).set (g:=g) (.inr U) 0 _).set (g:=g) (.inr U) 1 _
 |false=>
  have aO:(Op.bytesLess nm.toList u.toList||nm.toList == u.toList)=false:=hle
  have e3:s2=Z:=by rw[←aH.out,hle];rfl
  have J:Hid (RDid r Z W w2):=by rw[←e3];exact a5.out
  clear e3
  go_wp2_with fail
  refine Calls.mono (H3.out _ J.out.1) ?_
  rintro e G ⟨rfl,Q⟩
  have F:Hid (RDid r s4 W G):=RDid.then J.out Q
  have D:=a4.out G F.out.2
  have c0:G.cell? ⟨g,0,none⟩=some (.string ⟨#[]⟩):=cell_of_row _ _ _ _ 131 _ D
  have c1:G.cell? ⟨g,1,none⟩=some (.int .i64 0):=cell_of_row _ _ _ _ 131 _ D
  have f0:=frozen_of_row G g 0 _ 131 D
  have f1:=frozen_of_row G g 1 _ 131 D
  have N:Hid _:=D
  clear Q D
  go_wp2
  have hR:((G.setCell ⟨g,0,none⟩ (.string nm)).setCell ⟨g,1,none⟩ (.int .i64 ln)).heap[g]? =some (.cells #[.string nm,.int .i64 ln] 131 (0,0)):=zH _ _ 1 _ _ _ _ (zH _ _ 0 _ _ _ _ N.out)
  refine bodyPost_ret (v:=.agg #[.string nm,.int .i64 ln]) ?_ rfl ?_
  ·exact results_cell_row Tryz.results166 _ _ g 131 _ (0,0) _ rfl hR Tryz.underlying131 rfl (by kernel_rfl)
  ·refine⟨rfl,⟨?_,F.out.1.fn,F.out.1.nt,F.out.1.small⟩,?_⟩
   ·rw[zC _ _ _ _ _ X.symm,zC _ _ _ _ _ X.symm];exact F.out.1.row
   ·have U:w.heap.size≤g:=by rw[HG.out];exact Nat.le_refl _
    exact ((a6.out.trans' F.out.2).set (g:=g) (.inr U) 0 _).set (g:=g) (.inr U) 1 _
theorem zI {w w':World}{base:Nat}{e:TypeId}{size:Nat}{v:Value}{n:Nat}{D:List Value}(h:w.ownsRow base e size v n D)(hb:Below w.heap.size w w'):w'.ownsRow base e size v n D:=by
 refine⟨h.1,?_⟩
 rcases h.2 with F|⟨g,u,cur,J,G,A,j⟩
 ·exact .inl F
 ·exact .inr ⟨g,u,cur,J,G,by rw[hb.block g (Array.getElem?_eq_some_iff.1 A).1];exact A,j⟩
def tV (T:Nat→ByteArray)(n:Nat):List Value:=(List.range n).map fun i=>.string (T i)
theorem zIi (T:Nat→ByteArray)(n:Nat):(tV T n).length=n:=by simp[tV]
end Go.Proofs.YtlopecgkiikdhaaGreatDoor
