import Derived.Test.YtlopecgkiikdhaaGreatDoorX02
import Derived.Test.YtlopecgkiikdhaaGreatDoorX17
import Derived.Test.YtlopecgkiikdhaaGreatDoorX07
import Derived.Test.YtlopecgkiikdhaaGreatDoorX18
import Derived.Test.YtlopecgkiikdhaaGreatDoorX29
namespace Go.Proofs.YtlopecgkiikdhaaGreatDoor
open Go.RowKit
set_option maxRecDepth 100000
theorem zNL:∀n A P,gmS n A 0 P=P
 |0,_,_=>rfl
 |n+1,A,P=>by rw[gmS];simp;exact zNL n _ P
theorem zAL (a b:Nat)(j:a<9223372036854775808)(hb:b<9223372036854775808):bits .xor .i64 (a:Int) (b:Int)=((a ^^^ b:Nat):Int):=by
 have u:a ^^^ b<2 ^ 63:=Nat.xor_lt_two_pow (by omega) (by omega)
 have e:∀x:Nat,x<9223372036854775808→(BitVec.ofInt 64 (x:Int)).toNat=x:=fun x h=>by
  rw[BitVec.toNat_ofInt];omega
 show IntKind.i64.wrap ((BitVec.ofInt 64 (a:Int) ^^^ BitVec.ofInt 64 (b:Int)).toNat:Int)=_
 rw[BitVec.toNat_xor,e a j,e b hb,IntKind.wrap_i64]
 omega
theorem zPp:zGK 256 (fun A=>decide (2*A<256)&&(xt A == 2*A)||decide (256≤2*A)&&(xt A == (2*A) ^^^ 285))=true:=by decide+kernel
theorem zOP (A:Nat)(h:A<256)(j:2*A<256):xt A=2*A:=by
 have:=zu _ 256 zPp A h
 simp at this
 omega
theorem zOO (A:Nat)(h:A<256)(u:256≤2*A):xt A=(2*A) ^^^ 285:=by
 have:=zu _ 256 zPp A h
 simp at this
 rcases this with j|j
 ·omega
 ·exact j.2
set_option maxHeartbeats 1000000 in
theorem zCN (a b:Nat)(w:World)(ha:a<256)(hb:b<256):
 Calls Tryz.prog 176 #[.int .i64 a,.int .i64 b] w fun e w'=>e=.returned (.int .i64 (gm a b:Nat))∧w'=w:=by
 go_enter Tryz.func176,Tryz.ntmps176
 go_wp2
 go_loop [0,1,5] (fun x y p=>∃k A B P:Nat,k≤8∧B<2 ^ (8-k)∧x=.int .i64 A∧y=.int .i64 B∧p=.int .i64 P∧A<256∧P<256∧gmS (8-k) A B P=gm a b) (fun _ y _=>(intOf y).toNat)
 case atStart=>exact⟨0,a,b,0,by omega,hb,rfl,rfl,rfl,ha,by omega,rfl⟩
 case round=>
  obtain⟨k,A,B,P,hk,hB,rfl,rfl,rfl,u,hP,hg⟩:=hrel
  have HG:Hid _:=hg
  have G:Hid _:=hB
  have a8:B<256:=Nat.lt_of_lt_of_le hB (by exact Nat.pow_le_pow_right (n:=2) (by omega) (show 8-k≤8 by omega))
  clear hg hB
  by_cases aB:0<B
  ·have aA:k<8:=by
    rcases Nat.lt_or_ge k 8 with h|h
    ·exact h
    ·exfalso
     have:=G.out
     rw[show 8-k=0 by omega]at this
     omega
   have Z:Hid (gmS (8-(k+1)) (xt A) (B/2) (if B%2=1 then P ^^^ A else P)=gm a b):=by
    show gmS (8-(k+1)) (xt A) (B/2) (if B%2=1 then P ^^^ A else P)=gm a b
    rw[←HG.out,show 8-k=(8-(k+1))+1 by omega,gmS]
   have D:Hid (B/2<2 ^ (8-(k+1))):=by
    show B/2<2 ^ (8-(k+1))
    have:=G.out
    rw[show 8-k=(8-(k+1))+1 by omega,Nat.pow_succ]at this
    omega
   have W:=zAL P A (by omega) (by omega)
   have X:=zAL (2*A) 285 (by omega) (by omega)
   have R:Hid _:=W
   have U:Hid (bits .xor .i64 (2*(A:Int)) 285=((2*A ^^^ 285:Nat):Int)):=by show bits .xor .i64 (2*(A:Int)) 285=_;rw[←X];rfl
   clear W X
   have a6:(0:Int)<(B:Int):=by omega
   by_cases j:B%2=1
   ·by_cases N:256≤2*A
    ·have J:(((B:Int)%2) == 1)=true:=by simp;omega
     have Q:decide ((256:Int)≤2*(A:Int))=true:=by simp;omega
     go_wp2
     go_round
     case rel=>
      refine⟨k+1,xt A,B/2,(if B%2=1 then P ^^^ A else P),by omega,D.out,?_,by go_num,?_,zDk A u,?_,Z.out⟩
      ·rw[zOO A u N,U.out]
      ·rw[if_pos j,R.out]
      ·rw[if_pos j];exact Nat.xor_lt_two_pow (n:=8) hP u
     case measure=>simp[intOf];omega
    ·have J:(((B:Int)%2) == 1)=true:=by simp;omega
     have Q:decide ((256:Int)≤2*(A:Int))=false:=by simp;omega
     go_wp2
     go_round
     case rel=>
      refine⟨k+1,xt A,B/2,(if B%2=1 then P ^^^ A else P),by omega,D.out,?_,by go_num,?_,zDk A u,?_,Z.out⟩
      ·rw[zOP A u (by omega)];go_num
      ·rw[if_pos j,R.out]
      ·rw[if_pos j];exact Nat.xor_lt_two_pow (n:=8) hP u
     case measure=>simp[intOf];omega
   ·by_cases N:256≤2*A
    ·have J:(((B:Int)%2) == 1)=false:=by simp;omega
     have Q:decide ((256:Int)≤2*(A:Int))=true:=by simp;omega
     go_wp2
     go_round
     case rel=>
      refine⟨k+1,xt A,B/2,(if B%2=1 then P ^^^ A else P),by omega,D.out,?_,by go_num,?_,zDk A u,?_,Z.out⟩
      ·rw[zOO A u N,U.out]
      ·rw[if_neg j]
      ·rw[if_neg j];exact hP
     case measure=>simp[intOf];omega
    ·have J:(((B:Int)%2) == 1)=false:=by simp;omega
     have Q:decide ((256:Int)≤2*(A:Int))=false:=by simp;omega
     go_wp2
     go_round
     case rel=>
      refine⟨k+1,xt A,B/2,(if B%2=1 then P ^^^ A else P),by omega,D.out,?_,by go_num,?_,zDk A u,?_,Z.out⟩
      ·rw[zOP A u (by omega)];go_num
      ·rw[if_neg j]
      ·rw[if_neg j];exact hP
     case measure=>simp[intOf];omega
  ·have e:B=0:=by omega
   have HE:Hid (gm a b=P):=by show gm a b=P;rw[←HG.out,e,zNL]
   clear HG G
   subst e
   rw[show (((0:Nat)):Int)=0 from rfl]
   go_wp2
   go_ret
   exact⟨by rw[HE.out];rfl,rfl⟩
def gp (a:Nat):Nat→Nat
 |0=>1
 |n+1=>gm (gp a n) a
theorem zNP (a:Nat):∀n,gp a n<256
 |0=>by show 1<256;omega
 |n+1=>zA0 _ _ (zNP a n)
theorem zPx:zGK 256 (fun a=>gp a 254 == gi a)=true:=by decide+kernel
theorem zOv (a:Nat)(h:a<256):gp a 254=gi a:=by
 have:=zu _ 256 zPx a h
 simpa using this
set_option maxHeartbeats 1000000 in
theorem zJ2 (a:Nat)(w:World)(D:a<256):
 Calls Tryz.prog 190 #[.int .i64 a] w fun e w'=>e=.returned (.int .i64 (gi a:Nat))∧w'=w:=by
 have G:Hid (gi a=gp a 254):=(zOv a D).symm
 go_enter Tryz.func190,Tryz.ntmps190
 go_wp2
 go_loop [4,3] (fun u p=>∃k:Nat,k≤254∧u=.int .i64 k∧p=.int .i64 (gp a k:Nat)) (fun u _=>254-(intOf u).toNat)
 case atStart=>exact⟨0,by omega,rfl,rfl⟩
 case round=>
  obtain⟨k,hk,rfl,rfl⟩:=hrel
  have hp:=zNP a k
  have A:Hid (gp a (k+1)=gm (gp a k) a):=rfl
  obtain⟨q,j⟩:∃q,gp a k=q:=⟨_,rfl⟩
  rw[j]at hp A ⊢
  by_cases N:k<254
  ·clear j
   go_wp2_with fail
   refine (zCN q a _ hp D).mono ?_
   rintro e w' ⟨rfl,rfl⟩
   go_wp2
   go_round
   case rel=>exact⟨k+1,by omega,by go_num,by rw[A.out]⟩
   case measure=>simp[intOf];omega
  ·have e:k=254:=by omega
   have J:Hid (gi a=q):=by show gi a=q;rw[G.out,←j,e]
   clear j
   go_wp2
   go_ret
   exact⟨by rw[J.out];rfl,rfl⟩
namespace Fld
variable {F:Type} (K:Fld F)
def prd (d:Nat→F)(i:Nat):Nat→F
 |0=>K.one
 |k+1=>if k=i then prd d i k else K.mul (prd d i k) (d k)
theorem zKt (d:Nat→F)(i:Nat):∀k,k≤i→K.prd d i k=K.ahd d k
 |0,_=>rfl
 |k+1,h=>by rw[prd,if_neg (by omega),zKt d i k (by omega)];rfl
theorem zKs (d:Nat→F)(i:Nat):∀t,K.prd d i (i+1+t)=K.mul (K.ahd d i) (K.bhd d (i+1+t) t)
 |0=>by
  show K.prd d i (i+1)=K.mul _ K.one
  rw[prd,if_pos rfl,zKt K d i i (by omega),K.mul_one]
 |t+1=>by
  rw[show i+1+(t+1)=(i+1+t)+1 by omega,prd,if_neg (by omega),zKs d i t,zB3 K _ (i+1+t) t (by omega)]
  rw[K.mul_assoc,K.mul_comm (K.bhd _ _ t)]
theorem prd_oth (d:Nat→F)(n i:Nat)(hi:i<n):K.prd d i n=K.oth d n i:=by
 have:=zKs K d i (n-1-i)
 rwa [show i+1+(n-1-i)=n by omega]at this
end Fld
def prd (d:Nat→Nat)(i:Nat):Nat→Nat
 |0=>1
 |k+1=>if k=i then prd d i k else gm (prd d i k) (d k)
theorem zIH (d:Nat→Nat)(i:Nat):∀k,prd d i k<256
 |0=>by show 1<256;omega
 |k+1=>by
  rw[prd]
  split
  ·exact zIH d i k
  ·exact zA0 _ _ (zIH d i k)
theorem zIG (d:Nat→Nat)(D:Nat→N8)(n:Nat)(j:∀l,l<n→(D l).1=d l)(i:Nat):∀k,k≤n→prd d i k=(GF.prd D i k).1
 |0,_=>rfl
 |k+1,h=>by
  rw[prd,Fld.prd]
  by_cases e:k=i
  ·rw[if_pos e,if_pos e];exact zIG d D n j i k (by omega)
  ·rw[if_neg e,if_neg e]
   show gm (prd d i k) (d k)=gm (GF.prd D i k).1 (D k).1
   rw[zIG d D n j i k (by omega),j k (by omega)]
theorem prd_oth (d:Nat→Nat)(n i:Nat)(hd:∀l,l<n→d l<256)(hi:i<n):prd d i n=oth d n i:=by
 have j:∀l,l<n→(m8 (d l)).1=d l:=fun l hl=>zCM _ (hd l hl)
 rw[zIG d (fun l=>m8 (d l)) n j i n (Nat.le_refl _),zKq d (fun l=>m8 (d l)) n j i hi,Fld.prd_oth GF _ n i hi]
theorem zJ8 (p:Nat→Nat)(n x i:Nat)(j:x<256)(hp:∀l,l<n→p l<256)(hi:i<n):gm (prd (fun l=>x ^^^ p l) i n) (gi (hgt p i n))=wt p n x i:=by
 unfold wt scl
 rw[(zj _ (zJZ _ (zCr p i n))).2.1,prd_oth (fun l=>x ^^^ p l) n i (fun l hl=>Nat.xor_lt_two_pow (n:=8) j (hp l hl)) hi]
set_option maxHeartbeats 2000000 in
theorem zGs (p:Nat→Nat)(b n a6 x:Nat)(w:World)(hn:n≤1000)(hx:x<256)(hp:∀i,i<n→p i<256)(N:b<w.heap.size)(hc:Cl w b n (pI p)):
 Calls Tryz.prog 175 #[.slice (some ⟨b,0,none⟩) n a6,.int .i64 x] w fun e w'=>e=.returned (.slice (some ⟨w.heap.size,0,none⟩) n n)∧Rw w' w.heap.size n 3 (pI (wt p n x))∧Below w.heap.size w w':=by
 have HC:Hid _:=hc
 have HP:Hid _:=hp
 clear hc hp
 have aM:=run_make_row' (P:=Tryz.prog) 23 3 (.int .i64 0) 8 Tryz.underlying23 zBW rfl .i64 .i64 n (by omega) (by omega)
 go_enter Tryz.func175,Tryz.ntmps175
 go_wp2
 go_loopw [6] (fun i wr=>∃k:Nat,k≤n∧i=.int .i64 k∧Below w.heap.size w wr∧Rw wr w.heap.size n 3 (zL k (pI (wt p n x)) (.int .i64 0))) (fun i _=>n-(intOf i).toNat)
 case atStart=>exact⟨0,by omega,rfl,(Below.refl _ _).alloc (Nat.le_refl _) _,(Rw.made w n 3 (.int .i64 0)).to (fun j _=>(zo _ _ j).symm)⟩
 case round=>
  obtain⟨i,hi,rfl,hb,hR⟩:=hrel
  by_cases A:i<n
  ·have HB:Hid _:=hb
   have HR:Hid _:=hR
   clear hb hR
   have aA:=HP.out i A
   go_wp2
   go_loopw [9,7,8] (fun j a c wq=>∃k:Nat,k≤n∧j=.int .i64 k∧a=.int .i64 ((prd (fun l=>x ^^^ p l) i k:Nat):Int)∧c=.int .i64 ((hgt p i k:Nat):Int)∧∃q,wq=wr.drewN q) (fun j _ _ _=>n-(intOf j).toNat)
   case atStart=>exact⟨0,by omega,rfl,rfl,rfl,0,rfl⟩
   case round=>
    obtain⟨k,hk,rfl,rfl,rfl,q,Z⟩:=hrel
    have D:Hid (Below w.heap.size w wr):=by show Below _ _ _;rw[Z];exact below_drewN HB.out q
    have G:Hid (Rw wr w.heap.size n 3 (zL i (pI (wt p n x)) (.int .i64 0))):=by show Rw _ _ _ _ _;rw[Z];exact HR.out
    have HQ:Hid _:=Z
    clear Z
    have hA:=zIH (fun l=>x ^^^ p l) i k
    have X:=zCr p i k
    by_cases U:k<n
    ·have c3:wr.cell? ⟨b,i,none⟩=some (.int .i64 ((p i:Nat):Int)):=Cl.below HC.out D.out N i A
     have c4:wr.cell? ⟨b,k,none⟩=some (.int .i64 ((p k:Nat):Int)):=Cl.below HC.out D.out N k U
     have W:=HP.out k U
     have aB:x ^^^ p k<256:=Nat.xor_lt_two_pow (n:=8) hx W
     have aC:p i ^^^ p k<256:=Nat.xor_lt_two_pow (n:=8) aA W
     have a4:Hid _:=zAL x (p k) (by omega) (by omega)
     have a5:Hid _:=zAL (p i) (p k) (by omega) (by omega)
     by_cases u:k=i
     ·have a9:((k:Int) != (i:Int))=false:=by rw[bne_eq_false_iff_eq];omega
      go_wp2
      go_roundw
      case rel=>exact⟨k+1,by omega,by go_num,by rw[prd,if_pos u],by rw[hgt,if_pos u],q,HQ.out⟩
      case measure=>simp[intOf];omega
     ·have a9:((k:Int) != (i:Int))=true:=by rw[bne_iff_ne];omega
      go_wp2_with fail
      rw[a4.out]
      refine (zCN _ _ _ hA aB).mono ?_
      rintro e w2 ⟨rfl,rfl⟩
      go_wp2
      go_quiet (first|(go_at_call 176;rw[a5.out];exact Calls.quiet_of_same (zCN _ _ _ X aC)))
      go_wp2
      go_roundw
      case rel=>exact⟨k+1,by omega,by go_num,by rw[prd,if_neg u],by rw[hgt,if_neg u],_,by rw[HQ.out];rw[World.drewN_drewN]⟩
      case measure=>simp[intOf];omega
    ·have e:k=n:=by omega
     subst e
     have c1:=G.out.cell i A
     have c2:=G.out.free i
     have Q:=zJZ _ X
     have HW:Hid _:=zJ8 p k x i hx HP.out A
     obtain⟨hh,R⟩:∃hh,hgt p i k=hh:=⟨_,rfl⟩
     obtain⟨aa,J⟩:∃aa,prd (fun l=>x ^^^ p l) i k=aa:=⟨_,rfl⟩
     rw[R]at X HW Q ⊢
     rw[J]at hA HW ⊢
     clear R J
     go_wp2_with fail
     refine (zJ2 _ _ X).mono ?_
     rintro e w2 ⟨rfl,rfl⟩
     go_wp2_with fail
     refine (zCN _ _ _ hA Q).mono ?_
     rintro e w2 ⟨rfl,rfl⟩
     rw[HW.out]
     go_wp2
     go_roundw
     case rel=>exact⟨i+1,by omega,by go_num,D.out.setCell (Nat.le_refl _) _,(G.out.put i _).to (fun j _=>by rw[←zN];rfl)⟩
     case measure=>simp[intOf];omega
  ·have e:i=n:=by omega
   subst e
   go_wp2
   go_ret
   exact⟨rfl,hR.to (fun j hj=>by simp[zL,hj]),hb⟩
end Go.Proofs.YtlopecgkiikdhaaGreatDoor
namespace Go.Proofs.YtlopecgkiikdhaaGreatDoor
open Go.RowKit
set_option maxRecDepth 100000
def byV (f:Nat→Nat)(c:Nat):List Value:=(List.range c).map fun l=>.int .u8 ((f l:Nat):Int)
theorem zJK (f:Nat→Nat)(c:Nat):byV f (c+1)=byV f c++[.int .u8 ((f c:Nat):Int)]:=by simp[byV,List.range_succ]
set_option maxHeartbeats 4000000 in
theorem zIu (p:Nat→Nat)(S:Nat→ByteArray)(n x b aA Q U aB c:Nat)(w:World)(aI:0<n)(hn:n≤1000)(hx:x<256)(hp:∀i,i<n→p i<256)(hc:c≤1000000000000)(hS:∀i,i<n→(S i).size=c)
 (hb:b<w.heap.size) (hC:Cl w b n (pI p)) (aP:Q<w.heap.size) (aE:∀i,i<n→w.cell? ⟨Q,U+i,none⟩=some (.string (S i))):
 Calls Tryz.prog 160 #[.slice (some ⟨b,0,none⟩) n aA,.slice (some ⟨Q,U,none⟩) n aB,.int .i64 x] w fun e w'=>e=.returned (.string (zK4 c fun l=>sm (wt p n x) (fun i l=>bN (S i) l) l n))∧Below w.heap.size w w':=by
 have H:Hid _:=zGs p b n aA x w hn hx hp hb hC
 have HS:Hid _:=hS
 have aM:Hid _:=aE
 clear hS aE hC hp
 obtain⟨f,hf⟩:∃f:Nat→Nat,(fun l=>sm (wt p n x) (fun i l=>bN (S i) l) l n)=f:=⟨_,rfl⟩
 have aH:∀l,f l<256:=fun l=>by rw[←hf];exact zDb p _ n x l n
 rw[hf]
 have HF:Hid (∀l,f l=sm (wt p n x) (fun i l=>bN (S i) l) l n):=fun l=>by rw[←hf]
 have bD:Hid _:=aH
 clear hf aH
 obtain⟨i0,hi,aV,aW,aX⟩:=info_parts zJe
 go_enter Tryz.func160,Tryz.ntmps160
 go_wp2_with fail
 refine Calls.mono H.out ?_
 rintro e j ⟨rfl,Z,aD⟩
 have a9:Hid (Rw j w.heap.size n 3 (pI (wt p n x))):=Z
 have D:Hid _:=aD
 have aL:w.heap.size<j.heap.size:=Z.lt
 clear Z aD H
 obtain⟨gw,a2⟩:∃gw,gw=w.heap.size:=⟨_,rfl⟩
 rw[←a2]at a9 aL ⊢
 have b5:Q<gw:=by omega
 have bE:Hid _:=a2
 clear a2
 have a8:Hid (∀i,i<n→j.cell? ⟨Q,U+i,none⟩=some (.string (S i))):=fun i aS=>(D.out.cell (p:=⟨Q,U+i,none⟩) aP).trans (aM.out i aS)
 go_wp2
 go_loopw [9,8] (fun iv v wr=>∃l:Nat,l≤c∧iv=.int .i64 l∧wr.ownsRow j.heap.size 5 1 v l (byV f l)∧Below j.heap.size j wr) (fun iv _ _=>c-(intOf iv).toNat)
 case atStart=>exact⟨0,by omega,rfl,World.ownsRow_nil _ _ _ _,Below.refl _ _⟩
 case round=>
  obtain⟨l,hl,rfl,J,a1⟩:=hrel
  obtain⟨va,vc,hv⟩:=zA J
  subst hv
  have R:Hid (wr.ownsRow j.heap.size 5 1 (.slice va l vc) l (byV f l)):=J
  have A:Hid (Below j.heap.size j wr):=a1
  have c0:wr.cell? ⟨Q,U,none⟩=some (.string (S 0)):=(a1.cell (p:=⟨Q,U,none⟩) (by simp;omega)).trans (a8.out 0 aI)
  have bL:=HS.out 0 aI
  clear J a1
  by_cases aT:l<c
  ·have h1:(l:Int)<((S 0).size:Int):=by omega
   go_wp2
   go_loopw [11,10] (fun iv sv wq=>∃k q:Nat,k≤n∧iv=.int .i64 k∧sv=.int .i64 ((sm (wt p n x) (fun i l=>bN (S i) l) l k:Nat):Int)∧wq=wr.drewN q) (fun iv _ _=>n-(intOf iv).toNat)
   case atStart=>exact⟨0,0,by omega,rfl,rfl,rfl⟩
   case round=>
    obtain⟨k,q,hk,rfl,rfl,hq⟩:=hrel
    have aJ:=zDb p (fun i l=>bN (S i) l) n x l k
    by_cases a4:k<n
    ·have HN:Hid (sm (wt p n x) (fun i l=>bN (S i) l) l (k+1)=sm (wt p n x) (fun i l=>bN (S i) l) l k ^^^ gm (wt p n x k) (bN (S k) l)):=rfl
     obtain⟨s,hs⟩:∃s,sm (wt p n x) (fun i l=>bN (S i) l) l k=s:=⟨_,rfl⟩
     rw[hs]at HN aJ ⊢
     have aK:=zMx p n x k
     have aQ:=zJD (S k) l
     have bH:gm (wt p n x k) (bN (S k) l)<256:=zA0 _ _ aK
     have aO:Hid _:=zAL s (gm (wt p n x k) (bN (S k) l)) (by omega) (by omega)
     have c3:wr.cell? ⟨gw,k,none⟩=some (.int .i64 ((wt p n x k:Nat):Int)):=by rw[hq];exact (A.out.cell (p:=⟨gw,k,none⟩) aL).trans (a9.out.cell k a4)
     have c4:wr.cell? ⟨Q,U+k,none⟩=some (.string (S k)):=by rw[hq];exact (A.out.cell (p:=⟨Q,U+k,none⟩) (by simp;omega)).trans (a8.out k a4)
     have bJ:=zFc (S k) l (by rw[HS.out k a4];exact aT)
     have HQ:Hid _:=hq
     clear hq hs
     go_wp2
     go_quiet (first|(go_at_call 176;exact Calls.quiet_of_same (zCN _ _ _ aK aQ)))
     go_wp2
     go_roundw
     case rel=>exact⟨k+1,_,by omega,by go_num,by rw[HN.out,aO.out],by rw[HQ.out,World.drewN_drewN]⟩
     case measure=>simp[intOf];omega
    ·have e:k=n:=by omega
     have HO:Hid (wr.ownsRow j.heap.size 5 1 (.slice va l vc) l (byV f l)):=by show wr.ownsRow _ _ _ _ _ _;rw[hq];exact zI R.out (below_drewN (Below.refl _ _) q)
     have HB:Hid (Below j.heap.size j wr):=by show Below _ _ _;rw[hq];exact below_drewN A.out q
     rw[e,←HF.out l]at aJ ⊢
     clear hq
     have b7:((f l:Nat):Int)%256=((f l:Nat):Int):=by omega
     have X:j.heap.size≤(wr.alloc (Obj.cells #[Value.int IntKind.u8 ((f l:Nat):Int)] 5)).heap.size:=by have:=HB.out.size;simp;omega
     go_wp2_with (at_builtin;refine wpList_append_own_at _ rfl (.tmp 43) (.tmp 46) 173 rfl j.heap.size 5 i0 (.int .u8 0) 1 1 Tryz.underlying173 hi aV aW aX rfl (by decide) _ l (byV f l) rfl (HO.out.alloc _) ⟨wr.heap.size,0,none⟩ 1 1 [.int .u8 ((f l:Nat):Int)] rfl rfl (cell_one_new _ _ _) (by intro u hu;simp at hu;subst hu;rfl) ?kb ?kc X ?_)
     case kb=>unfold maxLen;omega
     case kc=>omega
     intro v' w' N G _ aG
     have aF:Below j.heap.size j w':=(HB.out.alloc HB.out.size _).grown G X (fun g hg=>zK HO.out g hg)
     have aU:w'.ownsRow j.heap.size 5 1 v' (l+1) (byV f (l+1)):=by rw[zJK];exact N
     clear N G aG HO HB R A X
     go_wp2
     go_roundw
     case rel=>exact⟨l+1,by omega,by go_num,aU,aF⟩
     case measure=>simp[intOf];omega
  ·have e:l=c:=by omega
   subst e
   have h1:((S 0).size:Int)≤(l:Int):=by omega
   rcases R.out.2 with ⟨hv,h0⟩|⟨g,b1,cur,hv,hg,hh,bA⟩
   ·simp only[Value.slice.injEq]at hv
    obtain⟨rfl,rfl,rfl⟩:=hv
    have aR:∀W:World,(convert 173 9 (.slice none 0 0)).run Tryz.prog W=.ok (.string ⟨#[]⟩) W:=fun W=>by kernel_rfl
    go_wp2
    go_ret
    exact⟨by congr 2,D.out.trans (A.out.mono D.out.size)⟩
   ·simp only[Value.slice.injEq]at hv
    obtain⟨rfl,_,rfl⟩:=hv
    have aR:=run_convert_bytes_arg (P:=Tryz.prog) wr 173 5 Tryz.underlying173 Tryz.underlying5 g 0 l vc ((List.range l).map fun i=>((f i:Nat):Int)) (by simp) (fun i hi=>by
     rw[Nat.zero_add,R.out.cellAt i (by omega)]
     simp[byV,hi]) 9 Tryz.underlying9
    go_wp2
    go_ret
    exact⟨rfl,D.out.trans (A.out.mono D.out.size)⟩
set_option maxHeartbeats 4000000
theorem zH9 {w:World}{base A:Nat}{e:TypeId}{size:Nat}{v:Value}{n:Nat}{D:List Value}(h:w.ownsRow base e size v n D)(hb:A≤base):w.ownsRow A e size v n D:=by
 refine⟨h.1,?_⟩
 rcases h.2 with G|⟨g,u,cur,N,J,j⟩
 ·exact .inl G
 ·exact .inr ⟨g,u,cur,N,Nat.le_trans hb J,j⟩
theorem zKD (T:Nat→ByteArray)(n:Nat):tV T (n+1)=tV T n++[.string (T n)]:=by simp[tV,List.range_succ]
end Go.Proofs.YtlopecgkiikdhaaGreatDoor
namespace Go.Proofs.YtlopecgkiikdhaaGreatDoor
open Go.RowKit Go.Maps
set_option maxRecDepth 100000
set_option maxHeartbeats 4000000
structure Glb (kt:Nat→Int)(w:World):Prop where
 gd:Gd kt w
 gr:Gr kt w
 ge:Ge w
theorem Glb.low {kt:Nat→Int}{base:Nat}{w w':World}(h:Glb kt w)(A:8≤base)(hb:Below base w w'):Glb kt w':=
 ⟨⟨fun j u=>(hb.cell (p:=⟨3,j,none⟩) (by show 3<base;omega)).trans (h.gd.tab j u),Nat.le_trans h.gd.one hb.size⟩,
  ⟨fun j u=>(hb.cell (p:=⟨2,j,none⟩) (by show 2<base;omega)).trans (h.gr.ref j u),fun j u=>(hb.cell (p:=⟨0,j,none⟩) (by show 0<base;omega)).trans (h.gr.first j u),Nat.le_trans h.gr.one hb.size⟩,
  ⟨(hb.cell (p:=⟨1,0,none⟩) (by show 1<base;omega)).trans h.ge.err⟩⟩
theorem Fr.low {S:Nat→Prop}{base:Nat}{w w':World}(h:Fr S w w')(u:∀j,S j→base≤j)(hb:base≤w.heap.size):Below base w w':=
 ⟨h.calm.1,h.calm.2.1,h.calm.2.2,h.size,fun k hk=>h.old k (by omega) (fun hs=>by have:=u k hs;omega)⟩
end Go.Proofs.YtlopecgkiikdhaaGreatDoor
namespace Go.Proofs.YtlopecgkiikdhaaGreatDoor
open Go.RowKit
set_option maxRecDepth 100000
set_option maxHeartbeats 4000000
theorem zFY {w:World}{B r k n:Nat}{G:TypeId}{J:Array Value}{v:Value}{H:Nat→ByteArray}(x:ByteArray)(hr:w.heap[r]? =some (.cells J G (0,0)))(a8:G≠9)(ho:w.ownsRow B 9 1 v n (tV H n))(hB:B≤w.heap.size)(hx:n≤1000000)(hH:H n=x):
 ∃u D,(Builtin.append_ #[22,22] 22 #[v,.slice (some ⟨w.heap.size,0,none⟩) 1 1]).run Tryz.prog (w.alloc (.cells #[.string x] 9))=.ok u D∧(D.setCell ⟨r,k,none⟩ u).ownsRow B 9 1 u (n+1) (tV H (n+1))∧D.heap[r]? =some (.cells J G (0,0))∧(D.setCell ⟨r,k,none⟩ u).heap[r]? =some (.cells (J.setIfInBounds k u) G (0,0))
  ∧(∀j,j<w.heap.size→j≠r→v.ownBlock≠some j→(D.setCell ⟨r,k,none⟩ u).heap[j]? =w.heap[j]?)∧(u.ownBlock=v.ownBlock∨u.ownBlock=some (w.heap.size+1))∧(B≤r→∀X,Below B X w→Below B X (D.setCell ⟨r,k,none⟩ u)):=by
 have a7:r<w.heap.size:=(Array.getElem?_eq_some_iff.1 hr).1
 have a6:(w.alloc (.cells #[.string x] 9)).heap[r]? =some (.cells J G (0,0)):=by rw[heap_alloc_old _ _ a7];exact hr
 have aH:(w.alloc (.cells #[.string x] 9)).heap.size=w.heap.size+1:=by simp
 obtain⟨u,D,W,R,hg,hb⟩:=zFt ho hB hx x
 have N:v.ownBlock≠some r:=fun e=>by
  obtain⟨cur,A⟩:=zB ho r e
  rw[hr]at A
  simp only[Option.some.injEq,Obj.cells.injEq]at A
  exact a8 A.2.1
 have U:D.heap[r]? =some (.cells J G (0,0)):=by
  rw[hg.block r (by omega) (fun e=>N e.symm)];exact a6
 have Q:u.ownBlock≠some r:=fun e=>by
  rcases hb with h|h
  ·exact N (h.symm.trans e)
  ·rw[h]at e;have:=Option.some.inj e;omega
 refine⟨u,D,W,?_,U,zH _ _ _ _ _ _ _ U,fun j hj Z h2=> ?_,hb,fun a1 X a9=> ?_⟩
 ·have e2:tV (fun i=>if i=n then x else H i) (n+1)=tV H (n+1):=by
   unfold tV
   apply List.map_congr_left
   intro a _
   by_cases ha:a=n
   ·subst ha;simp[hH]
   ·simp[ha]
  rw[e2]at R
  exact zD R (fun y hy=>zC _ _ _ _ _ (fun e=>Q (by rw[←e];exact hy)))
 ·rw[zC _ _ _ _ _ Z,hg.block j (by omega) (fun e=>h2 e.symm),heap_alloc_old _ _ hj]
 ·have Z:Below B X (w.alloc (.cells #[.string x] 9)):=a9.alloc hB _
  exact (Z.grown hg (by omega) (fun y hy=>zK ho y hy)).setCell (p:=⟨r,k,none⟩) a1 _
structure HD where
 K:Nat
 M:Nat
 C:Nat
 V:Nat
 root:ByteArray
 vE:Value
 es:List (ByteArray×Nat)
 num:Nat
 vL:Value
 nl:Nat
 Lf:Nat→ByteArray
 first:Nat
 vB:Value
 nb:Nat
 Bk:Nat→ByteArray
def HD.cells (d:HD):Array Value:= #[.int .i64 d.K,.int .i64 d.M,.int .i64 d.C,.int .i64 d.V,.string d.root,d.vE,.int .i64 d.num,d.vL,.int .i64 d.first,d.vB]
structure HI (w0:World)(c h:Nat)(st:RS)(d:HD)(w:World):Prop where
 cur:CR c st w
 row:w.heap[h]? =some (.cells d.cells 84 (0,0))
 oE:w.ownsRow w0.heap.size 131 2 d.vE d.es.length (enV d.es)
 oL:w.ownsRow w0.heap.size 9 1 d.vL d.nl (tV d.Lf d.nl)
 oB:w.ownsRow w0.heap.size 9 1 d.vB d.nb (tV d.Bk d.nb)
 ap:∀j,d.vL.ownBlock=some j→d.vB.ownBlock≠some j
 bel:Below w0.heap.size w0 w
 lc:w0.heap.size≤c
 lh:w0.heap.size≤h
theorem HI.go {G:World}{c h:Nat}{st D:RS}{d:HD}{w w':World}(H:HI G c h st d w)(hd:zCn c D w w'):HI G c h D d w' where
 cur:=hd.1
 row:=by rw[hd.2.old h (Array.getElem?_eq_some_iff.1 H.row).1 (zE H.row H.cur.row (by decide))];exact H.row
 oE:=zD H.oE (fun q u=>hd.2.old q (zG H.oE q u) (fun e=>by
  obtain⟨cur,A⟩:=zB H.oE q u
  exact zE A H.cur.row (by decide) e))
 oL:=zD H.oL (fun q u=>hd.2.old q (zG H.oL q u) (fun e=>by
  obtain⟨cur,A⟩:=zB H.oL q u
  exact zE A H.cur.row (by decide) e))
 oB:=zD H.oB (fun q u=>hd.2.old q (zG H.oB q u) (fun e=>by
  obtain⟨cur,A⟩:=zB H.oB q u
  exact zE A H.cur.row (by decide) e))
 ap:=H.ap
 bel:=H.bel.trans (hd.2.low (fun j e=>by rw[e];exact H.lc) H.bel.size)
 lc:=H.lc
 lh:=H.lh
theorem HI.low {j:World}{c h:Nat}{st:RS}{d:HD}{w w':World}(H:HI j c h st d w)(hb:Below w.heap.size w w'):HI j c h st d w':=H.go ⟨H.cur.below hb,Fr.below hb⟩
theorem HI.set {G:World}{c h:Nat}{st:RS}{d d':HD}{w:World}(H:HI G c h st d w)(k:Nat)(v:Value)(j:d'.cells=d.cells.setIfInBounds k v)(J:d'.es=d.es)(N:d'.vE=d.vE)(A:d'.vL=d.vL)(Q:d'.nl=d.nl)(R:d'.Lf=d.Lf)(D:d'.vB=d.vB)(U:d'.nb=d.nb)(W:d'.Bk=d.Bk):HI G c h st d' (w.setCell ⟨h,k,none⟩ v) where
 cur:=⟨by rw[zC _ _ _ _ _ (zE H.cur.row H.row (by decide))];exact H.cur.row,H.cur.nt,H.cur.small⟩
 row:=by rw[zH _ _ _ _ _ _ _ H.row,j]
 oE:=by
  rw[J,N]
  exact zD H.oE (fun q u=>zC _ _ _ _ _ (fun e=>by
   obtain⟨cur,j⟩:=zB H.oE q u
   exact zE j H.row (by decide) e))
 oL:=by
  rw[A,Q,R]
  exact zD H.oL (fun q u=>zC _ _ _ _ _ (fun e=>by
   obtain⟨cur,j⟩:=zB H.oL q u
   exact zE j H.row (by decide) e))
 oB:=by
  rw[D,U,W]
  exact zD H.oB (fun q u=>zC _ _ _ _ _ (fun e=>by
   obtain⟨cur,j⟩:=zB H.oB q u
   exact zE j H.row (by decide) e))
 ap:=by rw[A,D];exact H.ap
 bel:=H.bel.setCell (p:=⟨h,k,none⟩) H.lh _
 lc:=H.lc
 lh:=H.lh
theorem HI.ents {A:World}{c h:Nat}{st:RS}{d:HD}{w:World}(H:HI A c h st d w)(v:Value)(es:List (ByteArray×Nat))(D:w.ownsRow A.heap.size 131 2 v es.length (enV es)):HI A c h st { d with vE:=v,es:=es } (w.setCell ⟨h,5,none⟩ v) where
 cur:=⟨by rw[zC _ _ _ _ _ (zE H.cur.row H.row (by decide))];exact H.cur.row,H.cur.nt,H.cur.small⟩
 row:=zH _ _ _ _ _ _ _ H.row
 oE:=zD D (fun q u=>zC _ _ _ _ _ (fun e=>by
  obtain⟨cur,j⟩:=zB D q u
  exact zE j H.row (by decide) e))
 oL:=zD H.oL (fun q u=>zC _ _ _ _ _ (fun e=>by
  obtain⟨cur,j⟩:=zB H.oL q u
  exact zE j H.row (by decide) e))
 oB:=zD H.oB (fun q u=>zC _ _ _ _ _ (fun e=>by
  obtain⟨cur,j⟩:=zB H.oB q u
  exact zE j H.row (by decide) e))
 ap:=H.ap
 bel:=H.bel.setCell (p:=⟨h,5,none⟩) H.lh _
 lc:=H.lc
 lh:=H.lh
theorem HI.leaf {w0:World}{c h:Nat}{st:RS}{d:HD}{w:World}(H:HI w0 c h st d w)(x:ByteArray)(hl:d.nl≤1000000)(hH:d.Lf d.nl=x):
 ∃G Q,(Builtin.append_ #[22,22] 22 #[d.vL,.slice (some ⟨w.heap.size,0,none⟩) 1 1]).run Tryz.prog (w.alloc (.cells #[.string x] 9))=.ok G Q∧HI w0 c h st { d with vL:=G,nl:=d.nl+1 } (Q.setCell ⟨h,7,none⟩ G)∧Q.heap[h]? =some (.cells d.cells 84 (0,0)):=by
 obtain⟨G,Q,N,ho,hr,R,hk,hb,J⟩:=zFY (k:=7) x H.row (by decide) H.oL H.bel.size hl hH
 refine⟨G,Q,N,⟨⟨?_,H.cur.nt,H.cur.small⟩,R,?_,ho,?_,?_,J H.lh _ H.bel,H.lc,H.lh⟩,hr⟩
 ·rw[hk c (Array.getElem?_eq_some_iff.1 H.cur.row).1 (zE H.cur.row H.row (by decide)) (fun e=>by
   obtain⟨cur,u⟩:=zB H.oL c e
   exact zE H.cur.row u (by decide) rfl)]
  exact H.cur.row
 ·refine zD H.oE (fun j D=>hk j (zG H.oE j D) (fun e=> ?_) (fun e=> ?_))
  ·obtain⟨cur,u⟩:=zB H.oE j D
   exact zE u H.row (by decide) e
  ·obtain⟨cur,u⟩:=zB H.oE j D
   obtain⟨U,A⟩:=zB H.oL j e
   exact zE u A (by decide) rfl
 ·refine zD H.oB (fun j D=>hk j (zG H.oB j D) (fun e=> ?_) (fun e=>H.ap j e D))
  obtain⟨cur,u⟩:=zB H.oB j D
  exact zE u H.row (by decide) e
 ·intro j X Z
  rcases hb with e|e
  ·exact H.ap j (e.symm.trans X) Z
  ·have:=zG H.oB j Z
   have W:G.ownBlock=some j:=X
   rw[e]at W
   have:=Option.some.inj W
   omega
theorem HI.block {w0:World}{c h:Nat}{st:RS}{d:HD}{w:World}(H:HI w0 c h st d w)(x:ByteArray)(hl:d.nb≤1000000)(hH:d.Bk d.nb=x):
 ∃G Q,(Builtin.append_ #[22,22] 22 #[d.vB,.slice (some ⟨w.heap.size,0,none⟩) 1 1]).run Tryz.prog (w.alloc (.cells #[.string x] 9))=.ok G Q∧HI w0 c h st { d with vB:=G,nb:=d.nb+1 } (Q.setCell ⟨h,9,none⟩ G)∧Q.heap[h]? =some (.cells d.cells 84 (0,0)):=by
 obtain⟨G,Q,N,ho,hr,R,hk,hb,J⟩:=zFY (k:=9) x H.row (by decide) H.oB H.bel.size hl hH
 refine⟨G,Q,N,⟨⟨?_,H.cur.nt,H.cur.small⟩,R,?_,?_,ho,?_,J H.lh _ H.bel,H.lc,H.lh⟩,hr⟩
 ·rw[hk c (Array.getElem?_eq_some_iff.1 H.cur.row).1 (zE H.cur.row H.row (by decide)) (fun e=>by
   obtain⟨cur,u⟩:=zB H.oB c e
   exact zE H.cur.row u (by decide) rfl)]
  exact H.cur.row
 ·refine zD H.oE (fun j D=>hk j (zG H.oE j D) (fun e=> ?_) (fun e=> ?_))
  ·obtain⟨cur,u⟩:=zB H.oE j D
   exact zE u H.row (by decide) e
  ·obtain⟨cur,u⟩:=zB H.oE j D
   obtain⟨U,A⟩:=zB H.oB j e
   exact zE u A (by decide) rfl
 ·refine zD H.oL (fun j D=>hk j (zG H.oL j D) (fun e=> ?_) (fun e=>H.ap j D e))
  obtain⟨cur,u⟩:=zB H.oL j D
  exact zE u H.row (by decide) e
 ·intro j X Z
  rcases hb with e|e
  ·exact H.ap j X (e.symm.trans Z)
  ·have:=zG H.oL j X
   have W:G.ownBlock=some j:=Z
   rw[e]at W
   have:=Option.some.inj W
   omega
theorem HI.drew {j:World}{c h:Nat}{st:RS}{d:HD}{w:World}(H:HI j c h st d w):HI j c h st d w.drew:=H.low ((Below.refl _ _).drew)
theorem HI.drewN {j:World}{c h:Nat}{st:RS}{d:HD}{w:World}(H:HI j c h st d w)(n:Nat):HI j c h st d (w.drewN n):=H.low (below_drewN (Below.refl _ _) _)
end Go.Proofs.YtlopecgkiikdhaaGreatDoor
