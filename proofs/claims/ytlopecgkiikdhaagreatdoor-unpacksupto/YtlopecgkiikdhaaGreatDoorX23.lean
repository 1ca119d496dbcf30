import Derived.Test.YtlopecgkiikdhaaGreatDoorX17
import Derived.Test.YtlopecgkiikdhaaGreatDoorX18
import Derived.Test.YtlopecgkiikdhaaGreatDoorX22
namespace Go.Proofs.YtlopecgkiikdhaaGreatDoor
open Go.RowKit
set_option maxRecDepth 100000
set_option maxHeartbeats 1000000
def AllZ (t:ByteArray):Prop:=∀(j:Nat) (h:j<t.size),t[j].toNat=0
theorem AllZ.nil {t:ByteArray}(h:t.size=0):AllZ t:=fun j u=>by omega
theorem zG7 {t:ByteArray}(h:0<t.size)(A:t[0].toNat=0):AllZ (t.extract 1 t.size)↔AllZ t:=by
 constructor
 ·intro u j D
  cases j with
  |zero=>exact A
  |succ j=>
   have:=u j (by rw[ByteArray.size_extract];omega)
   rw[ByteArray.getElem_extract]at this
   simpa[Nat.add_comm] using this
 ·intro u j D
  rw[ByteArray.getElem_extract]
  exact u _ _
theorem zG6 {t:ByteArray}{m:Nat}(h:m<t.size)(F:t.size=m+1)(A:t[m].toNat=0):AllZ (t.extract 0 m)↔AllZ t:=by
 constructor
 ·intro u j D
  by_cases e:j=m
  ·subst e;exact A
  ·have:=u j (by rw[ByteArray.size_extract];omega)
   rw[ByteArray.getElem_extract]at this
   simpa using this
 ·intro u j D
  rw[ByteArray.getElem_extract]
  exact u _ _
def zlF:Nat→ByteArray→ByteArray
 |0,t=>t
 |f+1,t=>if h:0<t.size then if t[0].toNat=0 then zlF f (t.extract 1 t.size) else t else t
def zl (t:ByteArray):ByteArray:=zlF t.size t
def zrF:Nat→ByteArray→ByteArray
 |0,t=>t
 |f+1,t=>if h:f<t.size then if t[f].toNat=0 then zrF f (t.extract 0 f) else t else t
def zr (t:ByteArray):ByteArray:=zrF t.size t
theorem zI2 {t:ByteArray}(h:0<t.size)(u:t[0].toNat=0):zl (t.extract 1 t.size)=zl t:=by
 unfold zl
 have e:(t.extract 1 t.size).size=t.size-1:=by rw[ByteArray.size_extract];omega
 rw[e]
 obtain⟨m,j⟩:∃m,t.size=m+1:=⟨t.size-1,by omega⟩
 conv=>rhs;rw[j]
 rw[zlF,dif_pos h,if_pos u,j]
 rfl
theorem zI3 {t:ByteArray}(h:0<t.size)(j:¬t[0].toNat=0):zl t=t:=by
 unfold zl
 obtain⟨m,u⟩:∃m,t.size=m+1:=⟨t.size-1,by omega⟩
 rw[u,zlF,dif_pos h,if_neg j]
theorem zLA {t:ByteArray}(h:t.size=0):zl t=t:=by
 unfold zl
 rw[h];rfl
theorem zI5 {t:ByteArray}{m:Nat}(h:m<t.size)(u:t.size=m+1)(j:t[m].toNat=0):zr (t.extract 0 m)=zr t:=by
 unfold zr
 have e:(t.extract 0 m).size=m:=by rw[ByteArray.size_extract];omega
 rw[e]
 conv=>rhs;rw[u]
 rw[zrF,dif_pos h,if_pos j]
theorem zI6 {t:ByteArray}{m:Nat}(h:m<t.size)(u:t.size=m+1)(j:¬t[m].toNat=0):zr t=t:=by
 unfold zr
 rw[u,zrF,dif_pos h,if_neg j]
theorem zLB {t:ByteArray}(h:t.size=0):zr t=t:=by
 unfold zr
 rw[h];rfl
theorem zK9:∀(n:Nat) (t:ByteArray),t.size=n→((zl t).size=0↔AllZ t)
 |0,t,h=>⟨fun _=>AllZ.nil h,fun _=>by rw[zLA h];exact h⟩
 |n+1,t,h=>by
  have hp:0<t.size:=by omega
  by_cases j:t[0].toNat=0
  ·rw[←zI2 hp j,zK9 n _ (by rw[ByteArray.size_extract];omega),zG7 hp j]
  ·rw[zI3 hp j]
   exact⟨fun e=>absurd e (by omega),fun u=>absurd (u 0 hp) j⟩
theorem zI4:∀(n:Nat) (t:ByteArray),t.size=n→(AllZ (zr t)↔AllZ t)∧(zr t).size≤n
 |0,t,h=>by rw[zLB h];exact⟨Iff.rfl,by omega⟩
 |n+1,t,h=>by
  have hp:n<t.size:=by omega
  by_cases j:t[n].toNat=0
  ·have u:=zI4 n (t.extract 0 n) (by rw[ByteArray.size_extract];omega)
   rw[zI5 hp h j]at u
   exact⟨u.1.trans (zG6 hp h j),by omega⟩
  ·rw[zI6 hp h j]
   exact⟨Iff.rfl,by omega⟩
def zOU:Value→Nat
 | .string t=>t.size
 |_=>0
theorem zOK {a b:ByteArray}(h:a≠b):(a.toList == b.toList)=false:=by
 rw[beq_eq_false_iff_ne]
 intro e
 exact h (ByteArray.ext (by rw[ByteArray.toList_eq,ByteArray.toList_eq]at e;exact Array.toList_inj.1 e))
theorem zPV (s:ByteArray)(w:World):Calls Tryz.prog 196 #[.string s,.int .u8 0] w fun e w'=>e=.returned (.string (zl s))∧w'=w:=by
 go_enter Tryz.func196,Tryz.ntmps196
 go_wp2
 go_loop [0] (fun v=>∃t:ByteArray,v=.string t∧t.size≤s.size∧zl t=zl s) (fun v=>zOU v)
 case atStart=>exact⟨s,rfl,Nat.le_refl _,rfl⟩
 case round=>
  obtain⟨t,rfl,N,G⟩:=hrel
  have A:Hid _:=G
  clear G
  by_cases F:0<t.size
  ·obtain⟨b,hb⟩:∃b:Nat,t[0].toNat=b:=⟨_,rfl⟩
   by_cases j:b=0
   ·have D:((b:Int) == 0)=true:=by simp[j]
    have u:Hid _:=zI2 F (hb.trans j)
    clear j
    go_wp2
    go_round
    case rel=>exact⟨_,rfl,by rw[ByteArray.size_extract];omega,u.out.trans A.out⟩
    case measure=>simp[zOU,ByteArray.size_extract];omega
   ·have D:((b:Int) == 0)=false:=by simp;omega
    have u:Hid _:=zI3 F (fun e=>j (hb.symm.trans e))
    clear j
    go_wp2
    go_ret
    exact⟨by rw[←A.out,u.out];rfl,rfl⟩
  ·have J:t.size=0:=by omega
   have u:Hid _:=zLA J
   go_wp2
   go_ret
   exact⟨by rw[←A.out,u.out];rfl,rfl⟩
theorem zPW (s:ByteArray)(w:World)(hs:s.size≤1000000000):Calls Tryz.prog 197 #[.string s,.int .u8 0] w fun e w'=>e=.returned (.string (zr s))∧w'=w:=by
 go_enter Tryz.func197,Tryz.ntmps197
 go_wp2
 go_loop [0] (fun v=>∃t:ByteArray,v=.string t∧t.size≤s.size∧zr t=zr s) (fun v=>zOU v)
 case atStart=>exact⟨s,rfl,Nat.le_refl _,rfl⟩
 case round=>
  obtain⟨t,rfl,W,N⟩:=hrel
  have F:Hid _:=N
  clear N
  by_cases U:0<t.size
  ·obtain⟨m,A⟩:∃m,t.size=m+1:=⟨t.size-1,by omega⟩
   have D:m<t.size:=by omega
   have J:(t.size:Int)-1=(m:Int):=by omega
   obtain⟨b,hb⟩:∃b:Nat,t[m].toNat=b:=⟨_,rfl⟩
   by_cases j:b=0
   ·have G:((b:Int) == 0)=true:=by simp[j]
    have u:Hid _:=zI5 D A (hb.trans j)
    have R:Hid _:=A
    clear j A
    go_wp2
    go_round
    case rel=>exact⟨_,rfl,by rw[ByteArray.size_extract];omega,u.out.trans F.out⟩
    case measure=>simp[zOU,ByteArray.size_extract];omega
   ·have G:((b:Int) == 0)=false:=by simp;omega
    have u:Hid _:=zI6 D A (fun e=>j (hb.symm.trans e))
    clear j A
    go_wp2
    go_ret
    exact⟨by rw[←F.out,u.out];rfl,rfl⟩
  ·have Q:t.size=0:=by omega
   have u:Hid _:=zLB Q
   go_wp2
   go_ret
   exact⟨by rw[←F.out,u.out];rfl,rfl⟩
def tz (s:ByteArray):ByteArray:=zl (zr s)
theorem zK5 (s:ByteArray):(tz s).size=0↔AllZ s:=(zK9 _ _ rfl).trans (zI4 _ _ rfl).1
theorem zPU (s:ByteArray)(w:World)(hs:s.size≤1000000000):Calls Tryz.prog 189 #[.string s,.string ⟨#[0]⟩] w fun e w'=>e=.returned (.string (tz s))∧∃q,w'=w.drewN q:=by
 by_cases j:s.size=0
 ·have e:s=⟨#[]⟩:=ByteArray.ext (Array.eq_empty_of_size_eq_zero j)
  subst e
  go_enter Tryz.func189,Tryz.ntmps189
  go_wp2
  go_ret
  exact⟨rfl,0,rfl⟩
 ·have F:(s.toList == (⟨#[]⟩:ByteArray).toList)=false:=zOK (fun e=>j (by rw[e];rfl))
  have u:¬s.toList=[]:=fun e=>j (by rw[ByteArray.toList_eq]at e;have:=congrArg List.length e;simpa using this)
  have G:s.toList.isEmpty=false:=by simpa using u
  have A:(zr s).size≤1000000000:=Nat.le_trans (zI4 _ _ rfl).2 hs
  have J:Hid _:=A
  have D:Hid _:=hs
  clear A hs
  go_enter Tryz.func189,Tryz.ntmps189
  go_wp2_with fail
  go_quiet (first|(go_at_call 197;exact Calls.quiet_of_same (zPW s _ D.out))|(go_at_call 196;exact Calls.quiet_of_same (zPV (zr s) _)))
  go_wp2_with fail
  go_ret
  exact⟨rfl,_,rfl⟩
def ClO (w:World)(b o n:Nat)(v:Nat→Value):Prop:=∀i,i<n→w.cell? ⟨b,o+i,none⟩=some (v i)
theorem ClO.below {w w':World}{b o n:Nat}{v:Nat→Value}(h:ClO w b o n v){B:Nat}(hb:Below B w w')(j:b<B):ClO w' b o n v:=fun i hi=>(hb.cell (p:=⟨b,o+i,none⟩) j).trans (h i hi)
theorem zGS (h:Nat→Bool)(b n A:Nat)(w:World)(Q:n≤1000)(F:∀j,j<n→h j=false)(G:Cl w b n (bI h)):
 Calls Tryz.prog 194 #[.slice (some ⟨b,0,none⟩) n A,.bool true] w fun e w'=>e=.returned (.int .i64 (-1))∧w'=w:=by
 have N:Hid _:=G
 have J:Hid _:=F
 clear G F
 go_enter Tryz.func194,Tryz.ntmps194
 go_wp2
 go_loop [8] (fun D=>∃i:Nat,i≤n∧D=.int .i64 i) (fun D=>n-(intOf D).toNat)
 case atStart=>exact⟨0,by omega,rfl⟩
 case round=>
  obtain⟨i,hi,rfl⟩:=hrel
  by_cases u:i<n
  ·have c1:w.cell? ⟨b,i,none⟩=some (.bool (h i)):=N.out i u
   rw[J.out i u]at c1
   go_wp2
   go_round
   case rel=>exact⟨i+1,by omega,by go_num⟩
   case measure=>simp[intOf];omega
  ·go_wp2
   go_ret
   exact⟨rfl,rfl⟩
theorem zA3 (S:Nat→ByteArray)(h:Nat→Bool)(b o n N G A c u:Nat)(w:World)(hn:n≤1000)(D:u<n)(Q:h u=true)(h2:∀j,j<u→h j=false)(hS:∀i,i<n→h i=true→(S i).size=c)(hC:ClO w b o n (tI S))(hc:Cl w G n (bI h)):
 Calls Tryz.prog 186 #[.slice (some ⟨b,o,none⟩) n N,.slice (some ⟨G,0,none⟩) n A] w fun e w'=>e=.returned .nilIface∧∃q,w'=w.drewN q:=by
 have H:Hid _:=fun W (hW:Cl W G n (bI h))=>zEr h G n A u W hn D Q h2 hW
 have X:Hid _:=hC
 have HB:Hid _:=hc
 have HS:Hid _:=hS
 have H1:Hid _:=Q
 clear hC hc hS Q h2
 go_enter Tryz.func186,Tryz.ntmps186
 go_wp2_with (go_at_call 194;refine (H.out _ HB.out).mono ?_;rintro e w' ⟨rfl,rfl⟩)
 go_loopw [12] (fun U wr=>∃i q:Nat,i≤n∧U=.int .i64 i∧wr=w'.drewN q) (fun U _=>n-(intOf U).toNat)
 case atStart=>exact⟨0,0,by omega,rfl,rfl⟩
 case round=>
  obtain⟨i,q,hi,rfl,J⟩:=hrel
  by_cases F:i<n
  ·have c1:wr.cell? ⟨G,i,none⟩=some (.bool (h i)):=by rw[J];exact HB.out i F
   have c2:wr.cell? ⟨b,o+i,none⟩=some (.string (S i)):=by rw[J];exact X.out i F
   have c3:wr.cell? ⟨b,o+u,none⟩=some (.string (S u)):=by rw[J];exact X.out u D
   have Z:Hid _:=J
   clear J
   have a7:(0:Int)≤(i:Int):=by omega
   have a8:(i:Int)<(n:Int):=by omega
   have a9:(0:Int)≤(u:Int):=by omega
   have aA:(u:Int)<(n:Int):=by omega
   by_cases R:h i=true
   ·rw[R]at c1
    have aE:(((S i).size:Int) != ((S u).size:Int))=false:=by rw[bne_eq_false_iff_eq,HS.out i F R,HS.out u D H1.out]
    go_wp2
    go_quiet (fail)
    go_wp2
    go_roundw
    case rel=>exact⟨i+1,_,by omega,by go_num,by rw[Z.out,World.drewN_drewN]⟩
    case measure=>simp[intOf];omega
   ·have hf:h i=false:=by simpa using R
    rw[hf]at c1
    go_wp2
    go_quiet (fail)
    go_wp2
    go_roundw
    case rel=>exact⟨i+1,_,by omega,by go_num,by rw[Z.out,World.drewN_drewN]⟩
    case measure=>simp[intOf];omega
  ·go_wp2
   go_ret
   exact⟨rfl,q,rfl⟩
theorem zCi (S:Nat→ByteArray)(h:Nat→Bool)(b o n G D u:Nat)(w:World)(hn:n≤1000)(J:∀j,j<n→h j=false)(Q:ClO w b o n (tI S))(R:Cl w D n (bI h)):
 Calls Tryz.prog 186 #[.slice (some ⟨b,o,none⟩) n G,.slice (some ⟨D,0,none⟩) n u] w fun e w'=>e=.returned .nilIface∧∃q,w'=w.drewN q:=by
 have H:Hid _:=fun W (hW:Cl W D n (bI h))=>zGS h D n u W hn J hW
 have HC:Hid _:=Q
 have HB:Hid _:=R
 have Z:Hid _:=J
 clear Q R J
 go_enter Tryz.func186,Tryz.ntmps186
 go_wp2_with (go_at_call 194;refine (H.out _ HB.out).mono ?_;rintro e w' ⟨rfl,rfl⟩)
 go_loopw [12] (fun N wr=>∃i q:Nat,i≤n∧N=.int .i64 i∧wr=w'.drewN q) (fun N _=>n-(intOf N).toNat)
 case atStart=>exact⟨0,0,by omega,rfl,rfl⟩
 case round=>
  obtain⟨i,q,hi,rfl,F⟩:=hrel
  by_cases A:i<n
  ·have c1:wr.cell? ⟨D,i,none⟩=some (.bool (h i)):=by rw[F];exact HB.out i A
   have c2:wr.cell? ⟨b,o+i,none⟩=some (.string (S i)):=by rw[F];exact HC.out i A
   have HQ:Hid _:=F
   clear F
   have U:(0:Int)≤(i:Int):=by omega
   have X:(i:Int)<(n:Int):=by omega
   rw[Z.out i A]at c1
   go_wp2
   go_quiet (fail)
   go_wp2
   go_roundw
   case rel=>exact⟨i+1,_,by omega,by go_num,by rw[HQ.out,World.drewN_drewN]⟩
   case measure=>simp[intOf];omega
  ·go_wp2
   go_ret
   exact⟨rfl,q,rfl⟩
theorem zFS (h:Nat→Bool):∀n,cnt h n=0→∀j,j<n→h j=false
 |0,_,_,hj=>absurd hj (by omega)
 |n+1,e,j,hj=>by
  rw[cnt]at e
  by_cases u:h n=true
  ·rw[if_pos u]at e;omega
  ·by_cases A:j=n
   ·subst A;simpa using u
   ·rw[if_neg u]at e
    exact zFS h n (by omega) j (by omega)
theorem zNI (S:Nat→ByteArray)(p q:Nat→Nat)(n k m c b o aJ b1 J:Nat)(v2:Value)(w:World)(hn:n≤1000)(aN:0<k)(hk:k≤n)(hm:m≤n)(bG:n≤256)(hc:c≤140737488351232)(hS:∀i,i<k→(S (p i)).size=c)(hp:∀i,i<k→p i<n)(hq:∀i,i<m→q i<n)
 (hb:b<w.heap.size) (Z:b1<w.heap.size) (hC:ClO w b o n (tI S)) (h1:Cl w b1 k (pI p)) (h2:Pts w v2 m q):
 Calls Tryz.prog 188 #[.slice (some ⟨b,o,none⟩) n aJ,.slice (some ⟨b1,0,none⟩) k J,v2] w fun e w'=>e=.returned (.slice (some ⟨w.heap.size,0,none⟩) n n)∧Rw w' w.heap.size n 9 (zCC S p q k m c)∧Below w.heap.size w w':=by
 have HS:Hid _:=hS
 have HP:Hid _:=hp
 have HQ:Hid _:=hq
 have HC:Hid _:=hC
 have H1:Hid _:=h1
 have H2:Hid _:=h2
 clear hS hp hq hC h1 h2
 have bF:=run_make_row' (P:=Tryz.prog) 22 9 (.string ⟨#[]⟩) 16 Tryz.underlying22 zAl rfl .i64 .i64 n (by omega) (by omega)
 have b6:=run_make_row' (P:=Tryz.prog) 22 9 (.string ⟨#[]⟩) 16 Tryz.underlying22 zAl rfl .i64 .i64 k (by omega) (by omega)
 go_enter Tryz.func188,Tryz.ntmps188
 go_wp2
 go_loopw [21] (fun iv wr=>∃i:Nat,i≤k∧iv=.int .i64 i∧Below w.heap.size w wr∧Rw wr w.heap.size n 9 (zG3 (fun _=>.string ⟨#[]⟩) p (fun i=>.string (S (p i))) i)∧Rw wr (w.heap.size+1) k 9 (zL i (tI fun i=>S (p i)) (.string ⟨#[]⟩))) (fun iv _=>k-(intOf iv).toNat)
 case atStart=>
  refine⟨0,by omega,rfl,((Below.refl _ _).alloc (Nat.le_refl _) _).alloc (by simp) _,(Rw.made w n 9 (.string ⟨#[]⟩)).alloc _,?_⟩
  have:=Rw.made (w.alloc (.cells (madeCells #[.string ⟨#[]⟩] n) 9)) k 9 (.string ⟨#[]⟩)
  have e:(w.alloc (.cells (madeCells #[.string ⟨#[]⟩] n) 9)).heap.size=w.heap.size+1:=by simp
  rw[e]at this
  exact this.to (fun j _=>(zo _ _ j).symm)
 case round=>
  obtain⟨i,hi,rfl,u,G,W⟩:=hrel
  by_cases R:i<k
  ·have aA:=HP.out i R
   have c1:wr.cell? ⟨b1,i,none⟩=some (.int .i64 ((p i:Nat):Int)):=Cl.below H1.out u Z i R
   have c2:wr.cell? ⟨b,o+p i,none⟩=some (.string (S (p i))):=ClO.below HC.out u hb (p i) aA
   have c3:=W.cell i R
   have c4:=W.free i
   have aC:(S (p i)).size≤140737488351232:=by rw[HS.out i R];exact hc
   have aB:((p i:Nat):Int)<(n:Int):=by omega
   have aL:b≠w.heap.size+1:=by omega
   obtain⟨x,hx⟩:∃x,x=p i:=⟨_,rfl⟩
   rw[←hx]at c1 c2 aC aB
   have HX:Hid _:=hx
   clear hx
   have c5:(wr.setCell ⟨w.heap.size+1,i,none⟩ (.string (S x))).cell? ⟨b,o+x,none⟩=some (.string (S x)):=
    (World.cell?_of_block (a:=⟨b,o+x,none⟩) (heap_setCell_other wr ⟨w.heap.size+1,i,none⟩ b (.string (S x)) aL)).trans c2
   go_wp2_with fail
   refine (zC1 (S x) _ aC).mono ?_
   rintro e w3 ⟨rfl,A⟩
   have aM:=u.size
   have aK:Rw w3 (w.heap.size+1) k 9 (zL (i+1) (tI fun i=>S (p i)) (.string ⟨#[]⟩)):=((W.put i (.string (S x))).to (fun j _=>by rw[←zN,HX.out];rfl)).below A ((W.put i (.string (S x))).lt)
   have F:Rw w3 w.heap.size n 9 (zG3 (fun _=>.string ⟨#[]⟩) p (fun i=>.string (S (p i))) i):=(G.other ⟨w.heap.size+1,i,none⟩ (.string (S x)) (by simp)).below A ((G.other ⟨w.heap.size+1,i,none⟩ (.string (S x)) (by simp)).lt)
   have N:Below w.heap.size w w3:=(u.setCell (p:=⟨w.heap.size+1,i,none⟩) (by simp) (.string (S x))).trans (A.mono (by simpa[World.setCell] using aM))
   have c6:=F.cell x (by rw[HX.out];exact aA)
   have c7:=F.free x
   clear A u G W c1 c2 c3 c4 c5
   go_wp2
   go_roundw
   case rel=>exact⟨i+1,by omega,by go_num,N.setCell (Nat.le_refl _) _,by rw[HX.out];exact F.put (p i) _,aK.other _ _ (by simp)⟩
   case measure=>simp[intOf];omega
  ·have e:i=k:=by omega
   subst e
   have a6:Cl wr (w.heap.size+1) i (tI fun i=>S (p i)):=(W.to (fun j hj=>by simp[zL,hj])).cl
   have hf:Pts wr (.slice (some ⟨b1,0,none⟩) i J) i p:=.inr ⟨b1,J,rfl,Nat.lt_of_lt_of_le Z u.size,Cl.below H1.out u Z⟩
   have ht:Pts wr v2 m q:=Pts.below H2.out u
   have aO:=W.lt
   have HK:Hid _:=a6
   have HF:Hid _:=hf
   have HT:Hid _:=ht
   clear a6 hf ht W
   go_wp2_with fail
   refine (zGx p q (fun i=>S (p i)) i m c (w.heap.size+1) i _ v2 wr aN (by omega) (by omega) hc HS.out (fun j hj=>by have:=HP.out j hj;omega) (fun j hj=>by have:=HQ.out j hj;omega) aO HK.out HF.out HT.out).mono ?_
   rintro e w3 ⟨g,rfl,hg,a8,A⟩
   have F:=G.below A G.lt
   have a7:=Pts.below HT.out A
   have N:=u.trans (A.mono u.size)
   have bE:w.heap.size<g:=by have:=u.size;omega
   have bC:Hid _:=a7
   clear a7 HK HF HT A u G
   obtain⟨X,bD,D,aD⟩:∃X,X<w.heap.size∧∃D,(m=0∨(v2=.slice (some ⟨X,0,none⟩) m D∧Cl w3 X m (pI q))):=by
    rcases H2.out with ⟨_,h⟩|⟨X,D,h,hl,Q⟩
    ·exact⟨b,hb,0,.inl h⟩
    ·exact⟨X,hl,D,.inr ⟨h,Cl.below Q N hl⟩⟩
   have aH:Hid _:=aD
   clear aD
   go_wp2
   go_loopw [47] (fun jv wr=>∃j:Nat,j≤m∧jv=.int .i64 j∧Below w.heap.size w wr∧Same w.heap.size w3 wr∧Rw wr w.heap.size n 9 (zG3 (zG3 (fun _=>.string ⟨#[]⟩) p (fun i=>.string (S (p i))) i) q (tI (vl p q i c fun i=>S (p i))) j)) (fun jv _=>m-(intOf jv).toNat)
   case atStart=>exact⟨0,by omega,rfl,N,fun _ _=>rfl,F⟩
   case round=>
    obtain⟨j,hj,rfl,a9,U,G⟩:=hrel
    by_cases a1:j<m
    ·rcases aH.out with h0|⟨hv,Q⟩
     ·omega
     ·subst hv
      have aP:=HQ.out j a1
      have c1:wr.cell? ⟨g,j,none⟩=some (.string (vl p q i c (fun i=>S (p i)) j)):=(U.rw a8 (by omega)).cell j a1
      have c2:wr.cell? ⟨X,j,none⟩=some (.int .i64 ((q j:Nat):Int)):=U.cl Q (by omega) j a1
      have c3:=G.cell (q j) aP
      have c4:=G.free (q j)
      have bH:((q j:Nat):Int)<(n:Int):=by omega
      have HA:Hid _:=G
      have aF:Hid _:=U
      clear Q U G a8 F
      go_wp2
      go_roundw
      case rel=>exact⟨j+1,by omega,by go_num,a9.setCell (Nat.le_refl _) _,Same.put aF.out (q j) _,Rw.put HA.out (q j) _⟩
      case measure=>simp[intOf];omega
    ·have e:j=m:=by omega
     subst e
     go_wp2
     go_ret
     exact⟨rfl,G,a9⟩
theorem zIQ (S:Nat→ByteArray)(h:Nat→Bool)(k m c b o G N A i0:Nat)(w:World)(aQ:1≤k)(aR:k+m≤255)(hc:c≤140737488351232)(a1:i0<k+m)(h1:h i0=true)(h2:∀j,j<i0→h j=false)(hS:∀i,i<k+m→h i=true→(S i).size=c)(hK:(knL h k (k+m)).length=k)
 (hb:b<w.heap.size) (aN:N<w.heap.size) (hC:ClO w b o (k+m) (tI S)) (hB:Cl w N (k+m) (bI h)):
 Calls Tryz.prog 173 #[.int .i64 k,.int .i64 m,.slice (some ⟨b,o,none⟩) (k+m) G,.slice (some ⟨N,0,none⟩) (k+m) A] w fun e w'=>∃g,e=.returned (.tuple #[.slice (some ⟨g,0,none⟩) (k+m) (k+m),.nilIface])∧w.heap.size≤g∧
  Rw w' g (k+m) 9 (zCC S (gt (knL h k (k+m))) (gt (wnL h k (k+m))) k (wnL h k (k+m)).length c)∧Below w.heap.size w w':=by
 have HL:Hid _:=zA3 S h b o (k+m) G N A c i0 w (by omega) a1 h1 h2 hS hC hB
 have a2:=zFG h k (k+m)
 obtain⟨n,hn⟩:∃n,n=k+m:=⟨_,rfl⟩
 have a4:((k:Int)+(m:Int))=(n:Int):=by omega
 rw[←hn]at hS hK hC hB HL a1 a2 ⊢
 have aT:n≤255:=by omega
 have aZ:Hid _:=a4
 have aS:k≤n:=by omega
 have HS:Hid _:=hS
 have HK:Hid _:=hK
 have HC:Hid _:=hC
 have HB:Hid _:=hB
 clear hS hC hB hK h1 h2 hn
 go_enter Tryz.func173,Tryz.ntmps173
 go_wp2_with fail
 refine (zA4 k m _ aQ aR).mono ?_
 rintro e w' ⟨rfl,rfl⟩
 go_wp2_with fail
 refine (Calls.mono HL.out ?_)
 rintro e w1 ⟨rfl,q,Q⟩
 have HQ:Hid _:=Q
 have X:ClO w1 b o n (tI S):=by rw[Q];exact HC.out
 have W:Cl w1 N n (bI h):=by rw[Q];exact HB.out
 have u:Below w'.heap.size w' w1:=by rw[Q];exact below_drewN (Below.refl _ _) q
 have a8:w1.heap.size=w'.heap.size:=by rw[Q];rfl
 have aH:Hid _:=X
 have aG:Hid _:=W
 have F:Hid _:=a8
 clear X W Q a8 a4
 go_wp2_with fail
 refine (zEN h N n A k w1 (by omega) (by omega) (by rw[F.out];exact aN) aG.out).mono ?_
 rintro e w2 ⟨v1,v2,rfl,a5,a6,D⟩
 have a7:=zMT a6
 obtain⟨g1,U,a9,aP,J⟩:=zIB a5 (by rw[HK.out];omega)
 rw[HK.out]at a9 J
 subst a9
 have aJ:Hid _:=a7
 have R:Hid _:=J
 clear a7 J a5 a6
 have aO:b<w2.heap.size:=by have:=F.out;have:=D.size;omega
 have Z:ClO w2 b o n (tI S):=ClO.below aH.out D (by rw[F.out];exact hb)
 have aI:Hid _:=Z
 clear Z
 go_wp2_with fail
 refine (zNI S (gt (knL h k n)) (gt (wnL h k n)) n k (wnL h k n).length c b o G g1 U v2 w2 (by omega) (by omega) aS a2 (by omega) hc (fun i hi=> ?_) (fun i hi=> ?_) (fun i hi=> ?_) aO aP aI.out R.out aJ.out).mono ?_
 ·have:=zA9 h k n _ (zCF (knL h k n) i (by rw[HK.out];exact hi));exact HS.out _ this.1 this.2
 ·exact (zA9 h k n _ (zCF (knL h k n) i (by rw[HK.out];exact hi))).1
 ·exact zFH h k n _ (zCF (wnL h k n) i hi)
 rintro e w3 ⟨rfl,aM,aK⟩
 go_wp2
 go_ret2
 exact⟨w2.heap.size,rfl,Nat.le_trans u.size D.size,aM,(u.trans (D.mono u.size)).trans (aK.mono (Nat.le_trans u.size D.size))⟩
theorem zE7 (S:Nat→ByteArray)(h:Nat→Bool)(k m c b o A D j:Nat)(w:World)(aA:1≤k)(aC:k+m≤255)(hS:∀i,i<k+m→h i=true→(S i).size=c)(hK:(knL h k (k+m)).length <k)
 (a8:D<w.heap.size) (hC:ClO w b o (k+m) (tI S)) (G:Cl w D (k+m) (bI h)):
 Calls Tryz.prog 173 #[.int .i64 k,.int .i64 m,.slice (some ⟨b,o,none⟩) (k+m) A,.slice (some ⟨D,0,none⟩) (k+m) j] w fun e w'=>∃z,e=.returned (.tuple #[.slice none 0 0,.iface 150 (.pointer (some ⟨z,0,none⟩))])∧Below w.heap.size w w':=by
 have HL:Hid (Calls Tryz.prog 186 #[.slice (some ⟨b,o,none⟩) (k+m) A,.slice (some ⟨D,0,none⟩) (k+m) j] w fun e w'=>e=.returned .nilIface∧∃q,w'=w.drewN q):=by
  by_cases hp:0<cnt h (k+m)
  ·obtain⟨i0,a9,h1,h2⟩:=zB7 h (k+m) hp
   exact zA3 S h b o (k+m) A D j c i0 w (by omega) a9 h1 h2 hS hC G
  ·exact zCi S h b o (k+m) A D j w (by omega) (zFS h (k+m) (by omega)) hC G
 obtain⟨n,hn⟩:∃n,n=k+m:=⟨_,rfl⟩
 have Q:((k:Int)+(m:Int))=(n:Int):=by omega
 rw[←hn]at hK G HL ⊢
 have aD:n≤255:=by omega
 have aJ:Hid _:=Q
 have HK:Hid _:=hK
 have HB:Hid _:=G
 clear hS hC G hK hn
 go_enter Tryz.func173,Tryz.ntmps173
 go_wp2_with fail
 refine (zA4 k m _ aA aC).mono ?_
 rintro e w' ⟨rfl,rfl⟩
 go_wp2_with fail
 refine (Calls.mono HL.out ?_)
 rintro e Z ⟨rfl,q,U⟩
 have HQ:Hid _:=U
 have J:Cl Z D n (bI h):=by rw[U];exact HB.out
 have u:Below w'.heap.size w' Z:=by rw[U];exact below_drewN (Below.refl _ _) q
 have W:Z.heap.size=w'.heap.size:=by rw[U];rfl
 have a2:Hid _:=J
 have a4:Hid _:=W
 clear J U W Q
 go_wp2_with fail
 refine (zEN h D n j k Z (by omega) (by omega) (by rw[a4.out];exact a8) a2.out).mono ?_
 rintro e w2 ⟨v1,v2,rfl,R,aE,N⟩
 obtain⟨a1,aG,X⟩:=zA R
 have aB:(knL h k n).length <k:=HK.out
 obtain⟨len,F⟩:∃x,(knL h k n).length=x:=⟨_,rfl⟩
 rw[F]at X aB
 subst X
 clear R aE F
 go_wp2_with fail
 refine (zAk 14 len w2).mono ?_
 rintro e w3 ⟨z,rfl,hz,a5⟩
 clear hz
 go_wp2
 go_ret2
 exact⟨z,rfl,(u.trans (N.mono u.size)).trans (a5.mono (Nat.le_trans u.size N.size))⟩
set_option maxHeartbeats 4000000
theorem zO1 (g n:Nat)(lv:ByteArray)(w:World)(U:w.cell? ⟨g,7,none⟩=some (.string lv))(G:(n+1)*32≤lv.size)(hl:lv.size≤1000000):
 Calls Tryz.prog 184 #[.pointer (some ⟨g,0,none⟩),.int .i64 n] w fun e w'=>e=.returned (.string (pc lv 32 n))∧w'=w:=by
 obtain⟨lo,j⟩:∃lo,n*32=lo:=⟨_,rfl⟩
 obtain⟨up,u⟩:∃up,(n+1)*32=up:=⟨_,rfl⟩
 have Q:(n:Int)*32=((lo:Nat):Int):=by omega
 have R:((n:Int)+1)*32=((up:Nat):Int):=by omega
 have F:lo≤up:=by omega
 have D:up≤lv.size:=by omega
 have J:n≤1000000:=by omega
 have A:Hid (pc lv 32 n=lv.extract lo up):=by show pc lv 32 n=lv.extract lo up;unfold pc;rw[j,u]
 clear j u G
 have N:∀W,(Instr.slice 9 (.string lv) (some (.int .i64 ((lo:Nat):Int))) (some (.int .i64 ((up:Nat):Int))) none).run Tryz.prog W=.ok (.string (lv.extract lo up)) W:=fun W=>by
  rw[run_slice_string W 9 lv .i64 .i64 _ _ Tryz.underlying9 (by omega) (by omega) (by omega),Int.toNat_natCast,Int.toNat_natCast]
 rw[A.out]
 go_enter Tryz.func184,Tryz.ntmps184
 go_wp2
 go_ret
 exact⟨rfl,rfl⟩
def zAG (kt:Nat→Int)(C:Nat)(lv:ByteArray)(n:Nat)(b:ByteArray):Bool:=decide (b.size=C∧za (ofT kt) b=pc lv 32 n)
theorem zCs (kt:Nat→Int)(k g n C:Nat)(lv b:ByteArray)(w:World)(a0:w.cell? ⟨k,0,none⟩=some (.pointer (some ⟨g,0,none⟩)))(g4:w.cell? ⟨g,4,none⟩=some (.int .i64 C))(J:w.cell? ⟨g,7,none⟩=some (.string lv))(N:Gd kt w)
 (R:(n+1)*32≤lv.size) (hl:lv.size≤1000000) (hC:C≤64):
 Calls Tryz.prog 172 #[.pointer (some ⟨k,0,none⟩),.int .i64 n,.string b] w fun e w'=>e=.returned (.bool (zAG kt C lv n b))∧Below w.heap.size w w':=by
 have Q:k<w.heap.size:=block_lt_of_cell a0
 have F:g<w.heap.size:=block_lt_of_cell g4
 by_cases hs:b.size=C
 ·have U:((b.size:Int) == (C:Int))=true:=by rw[beq_iff_eq];omega
  have Z:Hid (∀X:World,Below w.heap.size w X→Calls Tryz.prog 179 #[.string b] X fun e w'=>e=.returned (.string (za (ofT kt) b))∧Below X.heap.size X w'):=fun X hX=>zFi kt b X (by omega) (N.below hX)
  have H2:Hid (∀X:World,Below w.heap.size w X→Calls Tryz.prog 184 #[.pointer (some ⟨g,0,none⟩),.int .i64 n] X fun e w'=>e=.returned (.string (pc lv 32 n))∧w'=X):=fun X hX=>zO1 g n lv X ((hX.cell (p:=⟨g,7,none⟩) F).trans J) R hl
  obtain⟨lf,u⟩:∃x,za (ofT kt) b=x:=⟨_,rfl⟩
  obtain⟨pv,A⟩:∃x,pc lv 32 n=x:=⟨_,rfl⟩
  have G:Hid (zAG kt C lv n b=(lf.toList == pv.toList)):=by
   show zAG kt C lv n b=_
   unfold zAG
   rw[u,A]
   by_cases e:lf=pv
   ·rw[zS e,decide_eq_true ⟨hs,e⟩]
   ·rw[zW e,decide_eq_false (fun h=>e h.2)]
  rw[u]at Z
  rw[A]at H2
  clear u A N R hs J
  go_enter Tryz.func172,Tryz.ntmps172
  go_wp2_with fail
  go_region_held3 (fun W=>W.cell? ⟨k,0,none⟩=some (.pointer (some ⟨g,0,none⟩))∧W.cell? ⟨g,4,none⟩=some (.int .i64 C)) (go_keep) (first|(go_at_call 179;refine Calls.mono (Z.out _ (by first|exact Below.refl _ _|exact (Below.refl _ _).drew)) ?_;rintro e w1 ⟨rfl,D⟩;have j:Below w.heap.size w w1:=(by first|exact D|exact ((Below.refl _ _).drew).trans D);have q0:=(j.cell (p:=⟨k,0,none⟩) Q).trans a0;have q4:=(j.cell (p:=⟨g,4,none⟩) F).trans g4)|(go_at_call 184;refine Calls.mono (H2.out _ (by first|exact j|exact Below.refl _ _|exact (Below.refl _ _).drew)) ?_;rintro e W ⟨rfl,rfl⟩))
  go_wp2_with fail
  go_ret
  exact⟨by rw[G.out];rfl,j⟩
 ·have U:((b.size:Int) == (C:Int))=false:=by rw[beq_eq_false_iff_ne];omega
  have G:Hid (zAG kt C lv n b=false):=decide_eq_false (fun h=>hs h.1)
  rw[G.out]
  clear hs N J R
  go_enter Tryz.func172,Tryz.ntmps172
  go_wp2_with fail
  go_quiet (fail)
  go_wp2_with fail
  go_ret
  exact⟨rfl,below_drewN (Below.refl _ _) _⟩
theorem zHh (F:Nat→ByteArray)(c:Nat):∀n,(∀i,i<n→(F i).size=c)→(jL F n).length=n*c
 |0,_=>by simp[jL]
 |n+1,h=>by
  have j:=zHh F c n (fun i hi=>h i (by omega))
  have e:jL F (n+1)=jL F n++(F n).data.toList:=by simp[jL,List.range_succ]
  rw[e,List.length_append,j,dl,h n (by omega),Nat.succ_mul]
theorem zLz (F:Nat→ByteArray)(c n:Nat)(h:∀i,i<n→(F i).size=c):(jT F n).size=n*c:=by
 have:=zHh F c n h
 show (jL F n).toArray.size=n*c
 simpa using this
def okI (kt:Nat→Int)(C:Nat)(lv:ByteArray)(o:Nat)(S:Nat→ByteArray)(h:Nat→Bool)(A:Nat→ByteArray)(i:Nat):Bool:=zAG kt C lv (o+i) (A i)&& !(h i&& !decide (A i=S i))
def tlT (A:Nat→ByteArray)(K C s len:Nat):ByteArray:=(jT A K).extract (min (len-s*(K*C)) (K*C)) (K*C)
def frg (kt:Nat→Int)(K M C:Nat)(lv:ByteArray)(s len:Nat)(S:Nat→ByteArray)(h:Nat→Bool)(A:Nat→ByteArray):Bool:=
 if ∀i,i<K+M→okI kt C lv (s*(K+M)) S h A i=true then decide ((tz (tlT A K C s len)).size≠0) else true
theorem zAK {kt:Nat→Int}{C:Nat}{lv:ByteArray}{n:Nat}{b:ByteArray}(h:zAG kt C lv n b=true):b.size=C:=(of_decide_eq_true h).1
theorem zJq {kt:Nat→Int}{C:Nat}{lv:ByteArray}{o:Nat}{S:Nat→ByteArray}{h:Nat→Bool}{A:Nat→ByteArray}{i:Nat}(e:okI kt C lv o S h A i=true):(A i).size=C:=zAK (by unfold okI at e;rw[Bool.and_eq_true]at e;exact e.1)
theorem zGQ (kt:Nat→Int)(k g B K M C V num first s q b2 md n o len aP aO:Nat)(aE:Option Addr)(kE:Nat)(es:List (ByteArray×Nat))(root lst lv:ByteArray)(vB:Value)(S A:Nat→ByteArray)(h:Nat→Bool)(w:World)
 (a0:w.cell? ⟨k,0,none⟩=some (.pointer (some ⟨g,0,none⟩))) (hg:w.heap[g]? =some (.cells (zBE root lst K M C V (.slice aE es.length kE) lv num first vB) 157 (0,0))) (ho:w.ownsRow B 131 2 (.slice aE es.length kE) es.length (enV es))
 (hl:es.length≤16) (b1:zM es≤4096) (a4:zM es=len) (hG:Gd kt w) (hK:1≤K) (bH:K+M≤255) (hn:n=K+M) (bG:1≤C) (hC:C≤64) (aX:(o+n)*32≤lv.size) (a5:lv.size≤1000000) (a2:s*(K+M)=o) (hs:s≤10000) (b0:s*(K*C)<len)
 (hq:q<w.heap.size) (hS:ClO w q o n (tI S)) (a1:b2<w.heap.size) (hh:Cl w b2 n (bI h)) (hA:Rw w md n 9 (tX A)):
 Calls Tryz.prog 174 #[.pointer (some ⟨k,0,none⟩),.int .i64 s,.slice (some ⟨q,o,none⟩) n aP,.slice (some ⟨b2,0,none⟩) n aO,.slice (some ⟨md,0,none⟩) n n] w fun e w'=>e=.returned (.bool (frg kt K M C lv s len S h A))∧Below w.heap.size w w':=by
 have aW:k<w.heap.size:=block_lt_of_cell a0
 have a9:g<w.heap.size:=(Array.getElem?_eq_some_iff.1 hg).1
 have aZ:md<w.heap.size:=(Array.getElem?_eq_some_iff.1 hA).1
 have cL:(s:Int)*(n:Int)=((o:Nat):Int):=by rw[hn,←a2];simp
 have b7:Hid (∀(X:World) (i:Nat),Below w.heap.size w X→i<n→Calls Tryz.prog 172 #[.pointer (some ⟨k,0,none⟩),.int .i64 ((o+i:Nat):Int),.string (A i)] X fun e w'=>e=.returned (.bool (zAG kt C lv (o+i) (A i)))∧Below X.heap.size X w'):=fun X i hX hi=>by
  have Q:=(hX.block g a9).trans hg
  exact zCs kt k g (o+i) C lv (A i) X ((hX.cell (p:=⟨k,0,none⟩) aW).trans a0) (cell_of_row _ _ _ _ 157 _ Q) (cell_of_row _ _ _ _ 157 _ Q) (hG.below hX) (Nat.le_trans (Nat.mul_le_mul_right 32 (by omega)) aX) a5 hC
 have a7:Hid (∀(X:World) (i:Nat),Below w.heap.size w X→i<n→X.cell? ⟨md,i,none⟩=some (.string (A i))∧X.cell? ⟨b2,i,none⟩=some (.bool (h i))∧X.cell? ⟨q,o+i,none⟩=some (.string (S i))):=fun X i hX hi=>
  ⟨(hX.cell (p:=⟨md,i,none⟩) aZ).trans (hA.cell i hi),(hX.cell (p:=⟨b2,i,none⟩) a1).trans (hh i hi),(hX.cell (p:=⟨q,o+i,none⟩) hq).trans (hS i hi)⟩
 have aI:Hid (∀X:World,Below w.heap.size w X→X.cell? ⟨k,0,none⟩=some (.pointer (some ⟨g,0,none⟩))∧X.cell? ⟨g,2,none⟩=some (.int .i64 K)):=fun X hX=>
  ⟨(hX.cell (p:=⟨k,0,none⟩) aW).trans a0,cell_of_row _ _ _ _ 157 _ ((hX.block g a9).trans hg)⟩
 have bB:Hid (∀X:World,Below w.heap.size w X→Calls Tryz.prog 142 #[.pointer (some ⟨g,0,none⟩)] X fun e w'=>e=.returned (.int .i64 len)∧Below X.heap.size X w'):=fun X hX=>by
  rw[←a4]
  exact zEq g B es.length kE aE es X (cell_of_row _ _ _ _ 157 _ ((hX.block g a9).trans hg)) rfl (zI ho hX) (fun i=>Nat.le_trans (zQ es i) (by omega)) (by omega)
 have bA:Hid (∀X:World,Below w.heap.size w X→(∀i,i<n→(A i).size=C)→Calls Tryz.prog 165 #[.slice (some ⟨md,0,none⟩) K n,.string ⟨#[]⟩] X fun e w'=>e=.returned (.string (jT A K))∧Below X.heap.size X w'):=fun X hX hz=>
  zAs A md 0 K n C X (Nat.lt_of_lt_of_le aZ hX.size) (by omega) (by omega) (by omega) (fun i hi=>Nat.le_of_eq (hz i (by omega))) (fun i hi=>by rw[Nat.zero_add];exact (a7.out X i hX (by omega)).1)
 have cI:len≤4096:=by omega
 have aQ:1≤K*C:=Nat.mul_pos hK bG
 have aR:K*C≤100000:=Nat.le_trans (Nat.mul_le_mul (show K≤255 by omega) hC) (by omega)
 have cG:K≤n:=by omega
 have bL:n≤255:=by omega
 have bZ:o≤2550000:=by rw[←a2];exact Nat.le_trans (Nat.mul_le_mul hs bH) (by omega)
 have Z:Hid (frg kt K M C lv s len S h A=if ∀i,i<n→okI kt C lv o S h A i=true then decide ((tz (tlT A K C s len)).size≠0) else true):=by show frg kt K M C lv s len S h A=_;unfold frg;rw[hn,a2]
 obtain⟨res,a6⟩:∃x,frg kt K M C lv s len S h A=x:=⟨_,rfl⟩
 rw[a6]at Z ⊢
 have aJ:Hid (∀i,i<n→(A i).size=C)→(jT A K).size=K*C:=fun hz=>zLz A C K (fun i hi=>hz.out i (by omega))
 have b9:Hid _:=aJ
 clear a0 hg ho hl b1 a4 hG hn aX a5 a2 hS hh hA a6 aJ
 go_enter Tryz.func174,Tryz.ntmps174
 go_wp2_with fail
 go_loopw [22] (fun iv wr=>∃i:Nat,i≤n∧iv=.int .i64 i∧Below w.heap.size w wr∧∀j,j<i→okI kt C lv o S h A j=true) (fun iv _=>n-(intOf iv).toNat)
 case atStart=>exact⟨0,by omega,rfl,Below.refl _ _,fun j hj=>absurd hj (by omega)⟩
 case round=>
  obtain⟨i,hi,rfl,hB,W⟩:=hrel
  have HB:Hid _:=hB
  have aL:Hid _:=W
  by_cases U:i<n
  ·obtain⟨c1,_,_⟩:=a7.out wr i hB U
   have cH:(i:Int)<(n:Int):=by omega
   have aH:Hid _:=b7.out wr i hB U
   obtain⟨x,hx⟩:∃x,o+i=x:=⟨_,rfl⟩
   rw[hx]at aH
   have cK:(o:Int)+(i:Int)=(x:Int):=by omega
   have HX:Hid _:=hx
   clear hB W hx
   go_wp2_with fail
   refine Calls.mono aH.out ?_
   rintro e w1 ⟨rfl,R⟩
   have u:Hid (Below w.heap.size w w1):=HB.out.trans (R.mono HB.out.size)
   obtain⟨d1,d2,d3⟩:=a7.out w1 i u.out U
   clear R c1
   have F:Hid (okI kt C lv o S h A i=(zAG kt C lv x (A i)&& !(h i&& !decide (A i=S i)))):=by show okI kt C lv o S h A i=_;unfold okI;rw[HX.out]
   cases hgd:zAG kt C lv x (A i) with
   |false=>
    rw[hgd]at F
    have G:Hid (res=true):=by
     show res=true
     rw[Z.out,if_neg (fun ha=>by have:=ha i U;rw[F.out]at this;cases this)]
    clear hgd
    go_wp2_with fail
    go_ret
    exact⟨by rw[G.out];rfl,u.out⟩
   |true=>
    rw[hgd]at F
    cases hhi:h i with
    |false=>
     rw[hhi]at F d2
     clear hgd hhi
     go_wp2_with fail
     go_roundw
     case rel=>exact⟨i+1,by omega,by go_num,u.out,fun j hj=>by
      by_cases e:j=i
      ·subst e;exact F.out
      ·exact aL.out j (by omega)⟩
     case measure=>simp[intOf];omega
    |true=>
     rw[hhi]at F d2
     by_cases J:A i=S i
     ·have hx:(!((A i).toList == (S i).toList))=false:=by rw[zS J];rfl
      have aK:Hid (okI kt C lv o S h A i=true):=by show okI kt C lv o S h A i=true;rw[F.out,decide_eq_true J];rfl
      clear hgd hhi F J
      go_wp2_with fail
      go_roundw
      case rel=>exact⟨i+1,by omega,by go_num,u.out,fun j hj=>by
       by_cases e:j=i
       ·subst e;exact aK.out
       ·exact aL.out j (by omega)⟩
      case measure=>simp[intOf];omega
     ·have hx:(!((A i).toList == (S i).toList))=true:=by rw[zW J];rfl
      have G:Hid (res=true):=by
       show res=true
       rw[Z.out,if_neg (fun ha=>by have:=ha i U;rw[F.out,decide_eq_false J]at this;cases this)]
      clear hgd hhi F J
      go_wp2_with fail
      go_ret
      exact⟨by rw[G.out];rfl,u.out⟩
  ·have ei:i=n:=by omega
   subst ei
   have hz:∀j,j<i→(A j).size=C:=fun j hj=>zJq (W j hj)
   have aV:=b9.out hz
   obtain⟨z,aB⟩:∃z,K*C=z:=⟨_,rfl⟩
   obtain⟨m,hm⟩:∃m,s*z=m:=⟨_,rfl⟩
   have G:Hid (res=decide ((tz (tlT A K C s len)).size≠0)):=by show res=_;rw[Z.out,if_pos W]
   obtain⟨Q,aS⟩:∃Q,min (len-m) z=Q:=⟨_,rfl⟩
   have aM:Hid (tlT A K C s len=(jT A K).extract Q z):=by show tlT A K C s len=_;unfold tlT;rw[aB,hm,aS]
   rw[aB]at aV b0 aQ aR
   rw[hm]at b0
   have cJ:(s:Int)*(z:Int)=(m:Int):=by rw[←hm];simp
   have c8:(len:Int)-(m:Int)=((len-m:Nat):Int):=by omega
   obtain⟨x2,x3⟩:=aI.out wr hB
   have HZ:Hid _:=hz
   clear W hB hz aB hm
   go_wp2_with fail
   refine (bA.out wr HB.out HZ.out).mono ?_
   rintro e w1 ⟨rfl,R⟩
   have u:Hid (Below w.heap.size w w1):=HB.out.trans (R.mono HB.out.size)
   obtain⟨y2,y3⟩:=aI.out w1 u.out
   clear R x2 x3
   obtain⟨D,hD⟩:∃D,jT A K=D:=⟨_,rfl⟩
   rw[hD]at aV aM ⊢
   clear hD
   go_wp2_with fail
   refine (bB.out w1 u.out).mono ?_
   rintro e w2 ⟨rfl,a1⟩
   have b6:Hid (Below w.heap.size w w2):=u.out.trans (a1.mono u.out.size)
   clear a1 y2 y3
   have aY:(min ((len-m:Nat):Int) (z:Int)).toNat=Q:=by omega
   have bD:Hid ((D.extract Q z).size≤1000000000):=by show (D.extract Q z).size≤1000000000;rw[ByteArray.size_extract];omega
   have bC:Hid _:=aY
   clear aY aS
   go_wp2_with fail
   rw[bC.out]
   rw[aM.out]at G
   refine Calls.mono (zPU (D.extract Q z) w2 bD.out) ?_
   rintro e w3 ⟨rfl,qd,b3⟩
   have aG:Hid (Below w.heap.size w w3):=by show Below w.heap.size w w3;rw[b3];exact below_drewN b6.out _
   clear b3
   obtain⟨L,hL⟩:∃L,tz (D.extract Q z)=L:=⟨_,rfl⟩
   rw[hL]at G ⊢
   clear hL
   by_cases N:L.size=0
   ·have e0:L=⟨#[]⟩:=ByteArray.ext (Array.eq_empty_of_size_eq_zero N)
    have a8:Hid (res=false):=by show res=false;rw[G.out];exact decide_eq_false (fun h=>h N)
    subst e0
    clear N
    go_wp2_with fail
    go_ret
    exact⟨by rw[a8.out];rfl,aG.out⟩
   ·have bM:¬L.toList=[]:=fun e=>N (by rw[ByteArray.toList_eq]at e;have:=congrArg List.length e;simpa using this)
    have cN:L.toList.isEmpty=false:=by simpa using bM
    have a8:Hid (res=true):=by show res=true;rw[G.out];exact decide_eq_true N
    clear N
    go_wp2_with fail
    go_ret
    exact⟨by rw[a8.out];rfl,aG.out⟩
end Go.Proofs.YtlopecgkiikdhaaGreatDoor
