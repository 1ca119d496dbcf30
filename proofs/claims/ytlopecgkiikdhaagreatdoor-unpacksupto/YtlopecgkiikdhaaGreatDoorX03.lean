import Derived.Test.YtlopecgkiikdhaaGreatDoorX02
namespace Go.Proofs.YtlopecgkiikdhaaGreatDoor
open Go.RowKit
def hgt (p:Nat→Nat)(i:Nat):Nat→Nat
 |0=>1
 |k+1=>if k=i then hgt p i k else gm (hgt p i k) (p i ^^^ p k)
theorem zCr (p:Nat→Nat)(i:Nat):∀k,hgt p i k<256
 |0=>by show 1<256;omega
 |k+1=>by
  rw[hgt]
  split
  ·exact zCr p i k
  ·exact zA0 _ _ (zCr p i k)
def scl (p:Nat→Nat)(n i:Nat):Nat:=gm 1 (gi (hgt p i n))
set_option maxHeartbeats 1000000 in
theorem zGr (p:Nat→Nat)(b n R:Nat)(w:World)(hn:n≤1000)(hp:∀i,i<n→p i<256)(D:b<w.heap.size)(hc:Cl w b n (nb p)):
 Calls Tryz.prog 217 #[.slice (some ⟨b,0,none⟩) n R] w fun e w'=>e=.returned (.slice (some ⟨w.heap.size,0,none⟩) n n)∧Rw w' w.heap.size n 305 (nb (scl p n))∧Below w.heap.size w w':=by
 have X:Hid _:=hc
 have Z:Hid _:=hp
 clear hc hp
 have a8:=run_make_row' (P:=Tryz.prog) 302 305 (.int .u8 0) 1 Tryz.underlying302 zCH rfl .i64 .i64 n (by omega) (by omega)
 have a4:=zNo
 have a5:=zDL
 have a6:=zHu
 have a7:=zNp
 go_enter Tryz.func217,Tryz.ntmps217
 go_wp2
 go_loopw [14] (fun i wr=>∃k:Nat,k≤n∧i=.int .i64 k∧Below w.heap.size w wr∧Rw wr w.heap.size n 305 (zL k (nb (scl p n)) (.int .u8 0))) (fun i _=>n-(intOf i).toNat)
 case atStart=>exact⟨0,by omega,rfl,(Below.refl _ _).alloc (Nat.le_refl _) _,(Rw.made w n 305 (.int .u8 0)).to (fun j _=>(zo _ _ j).symm)⟩
 case round=>
  obtain⟨i,hi,rfl,hb,Q⟩:=hrel
  by_cases A:i<n
  ·have c1:=Q.cell i A
   have c2:=Q.free i
   have c3:wr.cell? ⟨b,i,none⟩=some (.int .u8 ((p i:Nat):Int)):=Cl.below X.out hb D i A
   have J:=Z.out i A
   go_wp2_with (go_at_call 270;refine (zDR _ _).mono ?_;rintro e w' ⟨rfl,rfl⟩)
   go_loop [24,6] (fun j v=>∃k:Nat,k≤n∧j=.int .i64 k∧v=.int .u8 ((hgt p i k:Nat):Int)) (fun j _=>n-(intOf j).toNat)
   case atStart=>exact⟨0,by omega,rfl,rfl⟩
   case round=>
    obtain⟨k,hk,rfl,rfl⟩:=hrel
    by_cases G:k<n
    ·have c4:w'.cell? ⟨b,k,none⟩=some (.int .u8 ((p k:Nat):Int)):=Cl.below X.out hb D k G
     have N:=Z.out k G
     have u:=zCr p i k
     have W:p i ^^^ p k<256:=Nat.xor_lt_two_pow (n:=8) J N
     by_cases F:k=i
     ·have U:((k:Int) != (i:Int))=false:=by rw[bne_eq_false_iff_eq];omega
      go_wp2
      go_round
      case rel=>exact⟨k+1,by omega,by go_num,by rw[hgt,if_pos F]⟩
      case measure=>simp[intOf];omega
     ·have U:((k:Int) != (i:Int))=true:=by rw[bne_iff_ne];omega
      go_wp2_with (first|(go_at_call 269;refine (zD8 (p i) (p k) _ J N).mono ?_;rintro e w' ⟨rfl,rfl⟩)|(go_at_call 273;refine (zAA (hgt p i k) (p i ^^^ p k) _ u W).mono ?_;rintro e w' ⟨rfl,rfl⟩))
      go_round
      case rel=>exact⟨k+1,by omega,by go_num,by rw[hgt,if_neg F]⟩
      case measure=>simp[intOf];omega
    ·have e:k=n:=by omega
     subst e
     have u:=zCr p i k
     go_wp2_with (first|(go_at_call 270;refine (zDR _ _).mono ?_;rintro e w' ⟨rfl,rfl⟩)|(go_at_call 271;refine (zJu 1 (hgt p i k) _ (by omega) u).mono ?_;rintro e w' ⟨rfl,rfl⟩))
     go_roundw
     case rel=>exact⟨i+1,by omega,by go_num,hb.setCell (Nat.le_refl _) _,(Q.put i _).to (fun j _=>by rw[←zN];rfl)⟩
     case measure=>simp[intOf];omega
  ·have e:i=n:=by omega
   subst e
   go_wp2
   go_ret
   exact⟨rfl,Q.to (fun j hj=>by simp[zL,hj]),hb⟩
set_option maxHeartbeats 400000 in
theorem zG0 (b m n j:Nat)(v:Nat→Value)(w:World)(D:0<m)(u:Cl w b m v)(A:v 0=.slice (some ⟨n,0,none⟩) j j):
 Calls Tryz.prog 224 #[.slice (some ⟨b,0,none⟩) m m] w fun e w'=>e=.returned (.int .i64 j)∧w'=w:=by
 have c0:w.cell? ⟨b,0,none⟩=some (.slice (some ⟨n,0,none⟩) j j):=by rw[u 0 D,A]
 have G:((m:Int) == 0)=false:=by rw[beq_eq_false_iff_ne];omega
 have F:(0:Int)<(m:Int):=by omega
 clear u A
 go_enter Tryz.func224,Tryz.ntmps224
 go_wp2
 go_ret
 exact⟨rfl,rfl⟩
def sm (u:Nat→Nat)(V:Nat→Nat→Nat)(j:Nat):Nat→Nat
 |0=>0
 |k+1=>sm u V j k ^^^ gm (u k) (V k j)
theorem zMf (u:Nat→Nat)(V:Nat→Nat→Nat)(j:Nat)(A:∀i,u i<256):∀k,sm u V j k<256
 |0=>by show 0<256;omega
 |k+1=>Nat.xor_lt_two_pow (n:=8) (zMf u V j A k) (zA0 _ _ (A k))
structure Mat (w:World)(b r c:Nat)(V:Nat→Nat→Nat)(G:Nat→Nat):Prop where
 top:Cl w b r (fun i=>.slice (some ⟨G i,0,none⟩) c c)
 lt:b<w.heap.size
 rows:∀i,i<r→Cl w (G i) c (nb (V i))∧G i<w.heap.size
theorem Mat.below {w w':World}{b r c:Nat}{V:Nat→Nat→Nat}{G:Nat→Nat}(h:Mat w b r c V G)(hb:Below w.heap.size w w'):Mat w' b r c V G:=
 ⟨h.top.below hb h.lt,Nat.lt_of_lt_of_le h.lt hb.size,fun i hi=>⟨(h.rows i hi).1.below hb (h.rows i hi).2,Nat.lt_of_lt_of_le (h.rows i hi).2 hb.size⟩⟩
def smr (u:Nat→Nat)(V:Nat→Nat→Nat)(k j:Nat):Nat→Value:=fun l=>.int .u8 (((if l<j then sm u V l (k+1) else sm u V l k):Nat):Int)
theorem zJ9 (u:Nat→Nat)(V:Nat→Nat→Nat)(k j l:Nat):zB2 (smr u V k j) j (.int .u8 ((sm u V j k ^^^ gm (u k) (V k j):Nat):Int)) l=smr u V k (j+1) l:=by
 simp only[zB2,smr]
 by_cases h:l=j
 ·rw[if_pos h,if_pos (by omega),h];rfl
 ·rw[if_neg h]
  by_cases A:l<j
  ·rw[if_pos A,if_pos (by omega)]
  ·rw[if_neg A,if_neg (by omega)]
set_option maxHeartbeats 1000000 in
set_option maxRecDepth 100000 in
theorem zEW (u:Nat→Nat)(V:Nat→Nat→Nat)(G:Nat→Nat)(b r c J N:Nat)(w:World)(Z:0<r)(hr:r≤1000)(aG:c≤140737488351232)(hu:∀i,u i<256)(hV:∀i j,V i j<256)(hM:Mat w b r c V G)(R:J<w.heap.size)(hc:Cl w J r (nb u)):
 Calls Tryz.prog 220 #[.slice (some ⟨b,0,none⟩) r r,.slice (some ⟨J,0,none⟩) r N] w fun e w'=>e=.returned (.slice (some ⟨w.heap.size,0,none⟩) c c)∧Rw w' w.heap.size c 305 (nb fun j=>sm u V j r)∧Below w.heap.size w w':=by
 have W:Hid _:=hM
 have HC:Hid _:=hc
 have HU:Hid _:=hu
 have HV:Hid _:=hV
 clear hM hc hu hV
 have aN:=run_make_row' (P:=Tryz.prog) 302 305 (.int .u8 0) 1 Tryz.underlying302 zCH rfl .i64 .i64 c (by omega) (by omega)
 have aL:=zNq
 have aM:=zDL
 go_enter Tryz.func220,Tryz.ntmps220
 go_wp2_with (go_at_call 224;refine (zG0 b r (G 0) c _ _ Z (Mat.top W.out) rfl).mono ?_;rintro e w' ⟨rfl,rfl⟩)
 go_loopw [15] (fun iv wr=>∃i:Nat,i≤r∧iv=.int .i64 i∧Below w'.heap.size w' wr∧Rw wr w'.heap.size c 305 (smr u V i 0)) (fun iv _=>r-(intOf iv).toNat)
 case atStart=>exact⟨0,by omega,rfl,(Below.refl _ _).alloc (Nat.le_refl _) _,(Rw.made w' c 305 (.int .u8 0)).to (fun j _=>by simp only[smr];rw[if_neg (by omega)];rfl)⟩
 case round=>
  obtain⟨i,hi,rfl,hb,D⟩:=hrel
  by_cases A:i<r
  ·have Q:=Mat.below W.out hb
   have c1:=Q.top i A
   have c2:wr.cell? ⟨J,i,none⟩=some (.int .u8 ((u i:Nat):Int)):=Cl.below HC.out hb R i A
   have X:=(Mat.rows W.out i A).2
   have F:=(Mat.rows W.out i A).1
   have HR:Hid _:=F
   clear F Q
   go_wp2
   go_loopw [22] (fun jv wr=>∃j:Nat,j≤c∧jv=.int .i64 j∧Below w'.heap.size w' wr∧Rw wr w'.heap.size c 305 (smr u V i j)) (fun jv _=>c-(intOf jv).toNat)
   case atStart=>exact⟨0,by omega,rfl,hb,D⟩
   case round=>
    clear hb D c1 c2
    obtain⟨j,hj,rfl,hb,D⟩:=hrel
    by_cases U:j<c
    ·have c1:wr.cell? ⟨G i,j,none⟩=some (.int .u8 ((V i j:Nat):Int)):=Cl.below HR.out hb X j U
     have c2:wr.cell? ⟨J,i,none⟩=some (.int .u8 ((u i:Nat):Int)):=Cl.below HC.out hb R i A
     have c3:wr.cell? ⟨w'.heap.size,j,none⟩=some (.int .u8 ((sm u V j i:Nat):Int)):=by
      rw[D.cell j U];simp only[smr];rw[if_neg (by omega)]
     have c4:=D.free j
     have h1:=HU.out i
     have h2:=HV.out i j
     have h3:=zMf u V j HU.out i
     have h4:=zA0 (u i) (V i j) h1
     have aJ:(0:Int)≤(j:Int):=by omega
     have aK:(j:Int)<(c:Int):=by omega
     have aH:(0:Int)≤(i:Int):=by omega
     have aI:(i:Int)<(r:Int):=by omega
     go_wp2
     go_region_with (first|(go_at_call 273;refine (zAA (u i) (V i j) _ h1 h2).mono ?_;rintro e w' ⟨rfl,rfl⟩)|(go_at_call 272;refine (zJz (sm u V j i) (gm (u i) (V i j)) _ h3 h4).mono ?_;rintro e w' ⟨rfl,rfl⟩))
     all_goals
      go_wp2
      go_roundw
      case rel=>exact⟨j+1,by omega,by go_num,(hb.setCell (Nat.le_refl _) _).drew,((D.put j _).drew).to (fun l _=>zJ9 u V i j l)⟩
      case measure=>simp[intOf];omega
    ·have e:j=c:=by omega
     subst e
     go_wp2
     go_roundw
     case rel=>exact⟨i+1,by omega,by go_num,hb,D.to (fun l hl=>by simp only[smr];rw[if_pos hl,if_neg (by omega)])⟩
     case measure=>simp[intOf];omega
  ·have e:i=r:=by omega
   subst e
   go_wp2
   go_ret
   exact⟨rfl,D.to (fun l hl=>by simp only[smr,nb];rw[if_neg (by omega)]),hb⟩
def wt (p:Nat→Nat)(n x j:Nat):Nat:=gm (oth (fun l=>x ^^^ p l) n j) (scl p n j)
theorem zKr (f:Nat→Nat)(n j:Nat):oth f n j<256:=zA0 _ _ (zFJ f j)
theorem zN9 (p:Nat→Nat)(n j:Nat):scl p n j<256:=zA0 _ _ (by omega)
theorem zMx (p:Nat→Nat)(n x j:Nat):wt p n x j<256:=zA0 _ _ (zKr _ n j)
structure MatP (w:World)(B g m k n:Nat)(V:Nat→Nat→Nat)(G:Nat→Nat):Prop where
 top:Rw w g m 302 (zL k (fun i=>.slice (some ⟨G i,0,none⟩) n n) (.slice none 0 0))
 rows:∀i,i<k→B≤G i∧G i≠g∧Rw w (G i) n 305 (nb (V i))
theorem MatP.below {w w':World}{B g m k n:Nat}{V:Nat→Nat→Nat}{G:Nat→Nat}(h:MatP w B g m k n V G)(hb:Below w.heap.size w w'):MatP w' B g m k n V G:=
 ⟨h.top.below hb h.top.lt,fun i hi=>⟨(h.rows i hi).1,(h.rows i hi).2.1,(h.rows i hi).2.2.below hb (h.rows i hi).2.2.lt⟩⟩
def zKh (p:Nat→Nat)(n x j:Nat):Nat→Value:=fun l=>.int .u8 (((if l<j then wt p n x l else oth (fun l=>x ^^^ p l) n l):Nat):Int)
theorem zHV (p:Nat→Nat)(n x j l:Nat):zB2 (zKh p n x j) j (.int .u8 ((gm (oth (fun l=>x ^^^ p l) n j) (scl p n j):Nat):Int)) l=zKh p n x (j+1) l:=by
 simp only[zB2,zKh]
 by_cases h:l=j
 ·rw[if_pos h,if_pos (by omega),h];rfl
 ·rw[if_neg h]
  by_cases u:l<j
  ·rw[if_pos u,if_pos (by omega)]
  ·rw[if_neg u,if_neg (by omega)]
set_option maxHeartbeats 1000000 in
set_option maxRecDepth 100000 in
theorem zGU (p q:Nat→Nat)(b n Z b2 m aB:Nat)(w:World)(hn:n≤1000)(hm:m≤1000)(hp:∀i,i<n→p i<256)(hq:∀i,i<m→q i<256)(a8:b<w.heap.size)(aY:b2<w.heap.size)(hc:Cl w b n (nb p))(hd:Cl w b2 m (nb q)):
 Calls Tryz.prog 207 #[.slice (some ⟨b,0,none⟩) n Z,.slice (some ⟨b2,0,none⟩) m aB] w fun e w'=>∃g G,e=.returned (.slice (some ⟨g,0,none⟩) m m)∧w.heap.size≤g∧MatP w' w.heap.size g m m n (fun i=>wt p n (q i)) G∧Below w.heap.size w w':=by
 have HC:Hid _:=hc
 have HD:Hid _:=hd
 have HP:Hid _:=hp
 have HQ:Hid _:=hq
 clear hc hp hd hq
 have bP:=run_make_row' (P:=Tryz.prog) 301 302 (.slice none 0 0) 24 Tryz.underlying301 zHd rfl .i64 .i64 m (by omega) (by omega)
 have bO:=zDL
 go_enter Tryz.func207,Tryz.ntmps207
 go_wp2_with (go_at_call 217;refine (zGr p b n Z _ hn HP.out a8 HC.out).mono ?_;rintro e w1 ⟨rfl,a6,aE⟩)
 have b1:w.heap.size<w1.heap.size:=a6.lt
 obtain⟨g,hg⟩:∃g,g=w1.heap.size:=⟨_,rfl⟩
 rw[←hg]
 have aI:MatP (w1.alloc (.cells (madeCells #[.slice none 0 0] m) 302)) w.heap.size g m 0 n (fun i=>wt p n (q i)) (fun _=>0):=by
  rw[hg];exact⟨(Rw.made w1 m 302 (.slice none 0 0)).to (fun j _=>(zo _ _ j).symm),fun i hi=>by omega⟩
 have aL:Rw (w1.alloc (.cells (madeCells #[.slice none 0 0] m) 302)) w.heap.size n 305 (nb (scl p n)):=a6.alloc _
 have aD:Below w.heap.size w (w1.alloc (.cells (madeCells #[.slice none 0 0] m) 302)):=aE.alloc (by omega) _
 have bH:w.heap.size<g:=by omega
 clear a6 aE hg b1
 go_loopw [17] (fun iv wr=>∃i G,i≤m∧iv=.int .i64 (i:Nat)∧MatP wr w.heap.size g m i n (fun i=>wt p n (q i)) G∧Rw wr w.heap.size n 305 (nb (scl p n))∧Below w.heap.size w wr) (fun iv _=>m-(intOf iv).toNat)
 case atStart=>exact⟨0,_,by omega,rfl,aI,aL,aD⟩
 case round=>
  clear aI aL aD
  obtain⟨i,G,hi,rfl,hM,hS,hb⟩:=hrel
  by_cases R:i<m
  ·have c1:wr.cell? ⟨b2,i,none⟩=some (.int .u8 ((q i:Nat):Int)):=Cl.below HD.out hb aY i R
   have aQ:=HQ.out i R
   have aF:Cl wr b n (nb p):=Cl.below HC.out hb a8
   have aZ:b<wr.heap.size:=Nat.lt_of_lt_of_le a8 hb.size
   have aU:Hid _:=aF
   clear aF
   go_wp2_with fail
   refine (zCA (q i) p b n Z wr aQ hn HP.out aZ aU.out).mono ?_
   rintro e w3 ⟨rfl,a2,D⟩
   go_wp2_with fail
   refine (zGi (fun l=>q i ^^^ p l) wr.heap.size n n w3 hn (fun l hl=>Nat.xor_lt_two_pow (n:=8) aQ (HP.out l hl)) a2.lt a2.cl).mono ?_
   rintro e w4 ⟨rfl,a5,Q⟩
   have F:=(hM.below D).below Q
   have aM:=(hS.below D hS.lt).below Q (Nat.lt_of_lt_of_le hS.lt D.size)
   have U:=(hb.trans (D.mono hb.size)).trans (Q.mono (Nat.le_trans hb.size D.size))
   have a9:g<w3.heap.size:=Nat.lt_of_lt_of_le hM.top.lt D.size
   have a7:w.heap.size<w3.heap.size:=Nat.lt_of_lt_of_le hS.lt D.size
   have a4:∀A,A<i→G A<w3.heap.size:=fun A h'=>Nat.lt_of_lt_of_le (hM.rows A h').2.2.lt D.size
   have c2:=F.top.cell i R
   have c3:=F.top.free i
   obtain⟨o,ho⟩:∃o,o=w3.heap.size:=⟨_,rfl⟩
   rw[←ho]at a5 a9 a7 a4 ⊢
   clear ho a2 D Q hM hS hb
   go_wp2
   obtain⟨W,N⟩:∃W,W=w4.setCell ⟨g,i,none⟩ (Value.slice (some ⟨o,0,none⟩) n n):=⟨_,rfl⟩
   rw[←N]
   have aJ:Rw W o n 305 (zKh p n (q i) 0):=by rw[N];exact (a5.other _ _ (by simp;omega)).to (fun j _=>by simp only[zKh,nb];rw[if_neg (by omega)])
   have aN:Rw W w.heap.size n 305 (nb (scl p n)):=by rw[N];exact aM.other _ _ (by simp;omega)
   have aX:Below w.heap.size w W:=by rw[N];exact U.setCell (by simp;omega) _
   have aO:Rw W g m 302 (zL (i+1) (fun A=>.slice (some ⟨(if A=i then o else G A),0,none⟩) n n) (.slice none 0 0)):=by
    rw[N]
    refine (F.top.put i _).to (fun j _=> ?_)
    rw[←zN]
    simp only[zB2,zL]
    by_cases h:j=i
    ·simp[h]
    ·by_cases h2:j<i
     ·simp[h,h2]
     ·simp[h,h2]
   have aG:∀A,A<i→w.heap.size≤G A∧G A≠g∧Rw W (G A) n 305 (nb (wt p n (q A))):=fun A h'=>⟨(F.rows A h').1,(F.rows A h').2.1,by rw[N];exact (F.rows A h').2.2.other _ _ (by simpa using (F.rows A h').2.1)⟩
   have X:Hid _:=aG
   have aV:Hid _:=a4
   clear N a5 aM U F c1 c2 c3 aG a4
   go_loopw [34] (fun jv wr=>∃j:Nat,j≤n∧jv=.int .i64 j∧Below o W wr∧Rw wr o n 305 (zKh p n (q i) j)) (fun jv _=>n-(intOf jv).toNat)
   case atStart=>exact⟨0,by omega,rfl,Below.refl _ _,aJ⟩
   case round=>
    clear aJ
    obtain⟨j,hj,rfl,J,hO⟩:=hrel
    by_cases aP:j<n
    ·have c1:wr.cell? ⟨g,i,none⟩=some (.slice (some ⟨o,0,none⟩) n n):=by
      rw[(aO.below J a9).cell i R];simp[zL]
     have c2:wr.cell? ⟨o,j,none⟩=some (.int .u8 ((oth (fun l=>q i ^^^ p l) n j:Nat):Int)):=by
      rw[hO.cell j aP];simp only[zKh];rw[if_neg (by omega)]
     have c3:wr.cell? ⟨w.heap.size,j,none⟩=some (.int .u8 ((scl p n j:Nat):Int)):=(aN.below J a7).cell j aP
     have c4:=hO.free j
     have h1:=zKr (fun l=>q i ^^^ p l) n j
     have h2:=zN9 p n j
     have bL:(0:Int)≤(j:Int):=by omega
     have bM:(j:Int)<(n:Int):=by omega
     have bJ:(0:Int)≤(i:Int):=by omega
     have bK:(i:Int)<(m:Int):=by omega
     obtain⟨u,hu⟩:∃u,u=oth (fun l=>q i ^^^ p l) n j:=⟨_,rfl⟩
     obtain⟨v,hv⟩:∃v,v=scl p n j:=⟨_,rfl⟩
     rw[←hu]at c2 h1
     rw[←hv]at c3 h2
     have HU:Hid _:=hu
     have HV:Hid _:=hv
     clear hu hv
     go_wp2
     go_region_with (go_at_call 273;refine (zAA u v _ h1 h2).mono ?_;rintro e w' ⟨rfl,rfl⟩)
     all_goals
      go_wp2
      go_roundw
      case rel=>exact⟨j+1,by omega,by go_num,(J.setCell (Nat.le_refl _) _).drew,((hO.put j _).drew).to (fun l _=>by rw[←zHV,←HU.out,←HV.out])⟩
      case measure=>simp[intOf];omega
    ·have e:j=n:=by omega
     subst e
     go_wp2
     go_roundw
     case rel=>
      refine⟨i+1,fun A=>if A=i then o else G A,by omega,by go_num,⟨aO.below J a9,fun A h'=> ?_⟩,aN.below J a7,aX.trans (J.mono (by omega))⟩
      by_cases h:A=i
      ·subst h
       simp only[if_true]
       exact⟨by omega,by omega,hO.to (fun l hl=>by simp only[zKh,nb];rw[if_pos hl])⟩
      ·have hl:A<i:=by omega
       simp only[if_neg h]
       exact⟨(X.out A hl).1,(X.out A hl).2.1,(X.out A hl).2.2.below J (aV.out A hl)⟩
     case measure=>simp[intOf];omega
  ·have e:i=m:=by omega
   subst e
   go_wp2
   go_ret
   exact⟨g,G,rfl,by omega,hM,hb⟩
theorem MatP.mat {w:World}{B g m n:Nat}{V:Nat→Nat→Nat}{G:Nat→Nat}(h:MatP w B g m m n V G):Mat w g m n V G:=
 ⟨fun i hi=>by rw[h.top.cell i hi];simp[zL,hi],h.top.lt,fun i hi=>⟨(h.rows i hi).2.2.cl,(h.rows i hi).2.2.lt⟩⟩
theorem MatP.step {w A:World}{B g m k n:Nat}{V:Nat→Nat→Nat}{G:Nat→Nat}(h:MatP w B g m k n V G)(hb:Below w.heap.size w A)(o:Nat)(N:w.heap.size≤o)(J:B≤w.heap.size)(F:Rw A o n 305 (nb (V k))):
 MatP (A.setCell ⟨g,k,none⟩ (.slice (some ⟨o,0,none⟩) n n)) B g m (k+1) n V (fun i=>if i=k then o else G i):=by
 have u:=h.top.lt
 refine⟨?_,fun i hi=> ?_⟩
 ·refine ((h.top.below hb u).put k _).to (fun j _=> ?_)
  rw[←zN]
  simp only[zB2,zL]
  by_cases e:j=k
  ·simp[e]
  ·by_cases D:j<k
   ·simp[e,D]
   ·simp[e,D]
 ·by_cases e:i=k
  ·subst e
   simp only[if_true]
   exact⟨by omega,by omega,F.other _ _ (by simp;omega)⟩
  ·have hl:i<k:=by omega
   simp only[if_neg e]
   exact⟨(h.rows i hl).1,(h.rows i hl).2.1,((h.rows i hl).2.2.below hb (h.rows i hl).2.2.lt).other _ _ (by simpa using (h.rows i hl).2.1)⟩
set_option maxHeartbeats 1000000 in
theorem zGd (U V:Nat→Nat→Nat)(G1 G2:Nat→Nat)(b1 m r Z c:Nat)(w:World)(hm:m≤1000)(a5:0<r)(hr:r≤1000)(a4:c≤140737488351232)(hU:∀i j,U i j<256)(hV:∀i j,V i j<256)(h1:Mat w b1 m r U G1)(h2:Mat w Z r c V G2):
 Calls Tryz.prog 209 #[.slice (some ⟨b1,0,none⟩) m m,.slice (some ⟨Z,0,none⟩) r r] w fun e w'=>∃G,e=.returned (.slice (some ⟨w.heap.size,0,none⟩) m m)∧MatP w' w.heap.size w.heap.size m m c (fun i j=>sm (U i) V j r) G∧Below w.heap.size w w':=by
 have H1:Hid _:=h1
 have H2:Hid _:=h2
 have HU:Hid _:=hU
 have HV:Hid _:=hV
 clear h1 h2 hU hV
 have aI:=run_make_row' (P:=Tryz.prog) 301 302 (.slice none 0 0) 24 Tryz.underlying301 zHd rfl .i64 .i64 m (by omega) (by omega)
 go_enter Tryz.func209,Tryz.ntmps209
 go_wp2
 go_loopw [13] (fun iv wr=>∃i G,i≤m∧iv=.int .i64 (i:Nat)∧MatP wr w.heap.size w.heap.size m i c (fun i j=>sm (U i) V j r) G∧Below w.heap.size w wr) (fun iv _=>m-(intOf iv).toNat)
 case atStart=>exact⟨0,fun _=>0,by omega,rfl,⟨(Rw.made w m 302 (.slice none 0 0)).to (fun j _=>(zo _ _ j).symm),fun i hi=>by omega⟩,(Below.refl _ _).alloc (Nat.le_refl _) _⟩
 case round=>
  obtain⟨i,G,hi,rfl,J,hb⟩:=hrel
  by_cases F:i<m
  ·have hA:=Mat.below H1.out hb
   have N:=Mat.below H2.out hb
   have c1:=hA.top i F
   have D:=hA.rows i F
   have A:Hid _:=D
   have W:Hid _:=N
   clear hA N D
   go_wp2_with fail
   refine (zEW (U i) V G2 Z r c (G1 i) r wr a5 hr a4 (HU.out i) HV.out W.out A.out.2 A.out.1).mono ?_
   rintro e w2 ⟨rfl,R,u⟩
   have Q:=J.step u wr.heap.size (Nat.le_refl _) hb.size R
   have c2:=(J.top.below u J.top.lt).cell i F
   have c3:=(J.top.below u J.top.lt).free i
   have a2:=(hb.trans (u.mono hb.size)).setCell (p:=⟨w.heap.size,i,none⟩) (Nat.le_refl _) (.slice (some ⟨wr.heap.size,0,none⟩) c c)
   have X:Hid _:=Q
   clear Q R
   go_wp2
   go_roundw
   case rel=>exact⟨i+1,_,by omega,by go_num,X.out,a2⟩
   case measure=>simp[intOf];omega
  ·have e:i=m:=by omega
   subst e
   go_wp2
   go_ret
   exact⟨G,rfl,J,hb⟩
set_option maxRecDepth 100000
def Pts (w:World)(v:Value)(n:Nat)(q:Nat→Nat):Prop:=(v=.slice none 0 0∧n=0)∨∃b cap,v=.slice (some ⟨b,0,none⟩) n cap∧b<w.heap.size∧Cl w b n (pI q)
theorem Pts.below {w w':World}{v:Value}{n:Nat}{q:Nat→Nat}(h:Pts w v n q)(hb:Below w.heap.size w w'):Pts w' v n q:=by
 rcases h with h|⟨b,j,A,u,D⟩
 ·exact .inl h
 ·exact .inr ⟨b,j,A,Nat.lt_of_lt_of_le u hb.size,D.below hb u⟩
theorem zCw (p:Nat→Nat)(n:Nat)(v:Value)(w:World)(D:n≤1000)(hp:∀i,i<n→p i<256)(h:Pts w v n p):
 Calls Tryz.prog 208 #[v] w fun e w'=>e=.returned (.slice (some ⟨w.heap.size,0,none⟩) n n)∧Rw w' w.heap.size n 305 (nb p)∧Below w.heap.size w w':=by
 rcases h with ⟨rfl,rfl⟩|⟨b,u,rfl,hb,A⟩
 ·exact (zE2 w).mono fun e w' h=>⟨h.1,h.2.1.to (fun j F=>by omega),h.2.2⟩
 ·exact zE1 p b n u w D hp hb A
def tI (S:Nat→ByteArray):Nat→Value:=fun i=>.string (S i)
def vl (p q:Nat→Nat)(r c:Nat)(S:Nat→ByteArray)(i:Nat):ByteArray:=zK4 c (fun j=>sm (wt p r (q i)) (fun k j=>bN (S k) j) j r)
set_option maxHeartbeats 1000000 in
theorem zGx (p q:Nat→Nat)(S:Nat→ByteArray)(r m c b aR:Nat)(vf vt:Value)(w:World)(aU:0<r)(hr:r≤1000)(hm:m≤1000)(hc:c≤140737488351232)(hS:∀i,i<r→(S i).size=c)(hp:∀i,i<r→p i<256)(hq:∀i,i<m→q i<256)
 (hb:b<w.heap.size) (hC:Cl w b r (tI S)) (hf:Pts w vf r p) (ht:Pts w vt m q):
 Calls Tryz.prog 195 #[.slice (some ⟨b,0,none⟩) r aR,vf,vt] w fun e w'=>∃g,e=.returned (.slice (some ⟨g,0,none⟩) m m)∧w.heap.size≤g∧Rw w' g m 9 (tI (vl p q r c S))∧Below w.heap.size w w':=by
 have HS:Hid _:=hS
 have HP:Hid _:=hp
 have HQ:Hid _:=hq
 have HC:Hid _:=hC
 have HF:Hid _:=hf
 have HT:Hid _:=ht
 clear hS hp hq hC hf ht
 have bL:=run_make_row' (P:=Tryz.prog) 301 302 (.slice none 0 0) 24 Tryz.underlying301 zHd rfl .i64 .i64 r (by omega) (by omega)
 have b6:=run_make_row' (P:=Tryz.prog) 22 9 (.string ⟨#[]⟩) 16 Tryz.underlying22 zAl rfl .i64 .i64 m (by omega) (by omega)
 go_enter Tryz.func195,Tryz.ntmps195
 go_wp2
 go_loopw [19] (fun iv wr=>∃i G,i≤r∧iv=.int .i64 (i:Nat)∧MatP wr w.heap.size w.heap.size r i c (fun k j=>bN (S k) j) G∧Below w.heap.size w wr) (fun iv _=>r-(intOf iv).toNat)
 case atStart=>exact⟨0,fun _=>0,by omega,rfl,⟨(Rw.made w r 302 (.slice none 0 0)).to (fun j _=>(zo _ _ j).symm),fun i hi=>by omega⟩,(Below.refl _ _).alloc (Nat.le_refl _) _⟩
 case round=>
  obtain⟨i,G,hi,rfl,Z,A⟩:=hrel
  by_cases aC:i<r
  ·have c1:wr.cell? ⟨b,i,none⟩=some (.string (S i)):=Cl.below HC.out A hb i aC
   have aL:=HS.out i aC
   have aS:(S i).size≤140737488351232:=by omega
   have aQ:Hid _:=aL
   clear aL
   go_wp2_with fail
   refine (zMa (S i) wr aS).mono ?_
   rintro e w2 ⟨rfl,a6,u⟩
   rw[aQ.out]at a6 ⊢
   have aH:=Z.step u wr.heap.size (Nat.le_refl _) A.size a6
   have c2:=(Z.top.below u Z.top.lt).cell i aC
   have c3:=(Z.top.below u Z.top.lt).free i
   have aA:=(A.trans (u.mono A.size)).setCell (p:=⟨w.heap.size,i,none⟩) (Nat.le_refl _) (.slice (some ⟨wr.heap.size,0,none⟩) c c)
   have aN:Hid _:=aH
   clear aH a6
   go_wp2
   go_roundw
   case rel=>exact⟨i+1,_,by omega,by go_num,aN.out,aA⟩
   case measure=>simp[intOf];omega
  ·have e:i=r:=by omega
   subst e
   have W:=Z.mat
   have Q:Hid _:=W
   clear W
   have aG:=Pts.below HF.out A
   go_wp2_with fail
   refine (zCw p i vf wr (by omega) HP.out aG).mono ?_
   rintro e w2 ⟨rfl,a4,u⟩
   have aM:=(Pts.below HT.out A).below u
   go_wp2_with fail
   refine (zCw q m vt w2 hm HQ.out aM).mono ?_
   rintro e w3 ⟨rfl,a5,D⟩
   have F:=a4.below D a4.lt
   go_wp2_with fail
   refine (zGU p q wr.heap.size i i w2.heap.size m m w3 (by omega) hm HP.out HQ.out F.lt a5.lt F.cl a5.cl).mono ?_
   rintro e w4 ⟨g4,G4,rfl,bJ,aI,J⟩
   have aJ:=((Q.out.below u).below D).below J
   go_wp2_with fail
   refine (zGd (fun k=>wt p i (q k)) (fun k j=>bN (S k) j) G4 G g4 m i w.heap.size c w4 hm aU (by omega) hc (fun k j=>zMx p i (q k) j) (fun k j=>zJD (S k) j) aI.mat aJ).mono ?_
   rintro e w5 ⟨G5,rfl,a1,aE⟩
   have a9:Below w.heap.size w w5:=(((A.trans (u.mono A.size)).trans (D.mono (Nat.le_trans A.size u.size))).trans (J.mono (Nat.le_trans A.size (Nat.le_trans u.size D.size)))).trans (aE.mono (Nat.le_trans A.size (Nat.le_trans u.size (Nat.le_trans D.size J.size))))
   obtain⟨g,hg⟩:∃g,g=w4.heap.size:=⟨_,rfl⟩
   rw[←hg]at a1 ⊢
   have U:=a1.mat
   have aO:Hid _:=U
   clear U hg a4 u a5 D F aI J aJ aE a1 aM aG Z Q A
   go_wp2
   go_loopw [42] (fun kv wr=>∃k:Nat,k≤m∧kv=.int .i64 k∧Below w5.heap.size w5 wr∧Rw wr w5.heap.size m 9 (zL k (tI (vl p q i c S)) (.string ⟨#[]⟩))) (fun kv _=>m-(intOf kv).toNat)
   case atStart=>exact⟨0,by omega,rfl,(Below.refl _ _).alloc (Nat.le_refl _) _,(Rw.made w5 m 9 (.string ⟨#[]⟩)).to (fun j _=>(zo _ _ j).symm)⟩
   case round=>
    obtain⟨k,hk,rfl,N,a8⟩:=hrel
    by_cases aB:k<m
    ·have a2:=aO.out.below N
     have c1:=a2.top k aB
     have X:=a2.rows k aB
     have R:Hid _:=X
     clear a2 X
     go_wp2_with fail
     refine (zKF _ (G5 k) c c wr hc R.out.2 R.out.1).mono ?_
     rintro e w6 ⟨rfl,aF⟩
     have a7:=a8.below aF a8.lt
     have c2:=a7.cell k aB
     have c3:=a7.free k
     have aA:=(N.trans (aF.mono N.size)).setCell (p:=⟨w5.heap.size,k,none⟩) (Nat.le_refl _) (.string (vl p q i c S k))
     have aK:=(a7.put k (.string (vl p q i c S k))).to (fun j _=>zN k (tI (vl p q i c S)) (.string ⟨#[]⟩) j)
     have aP:Hid _:=aK
     clear aK
     go_wp2
     go_roundw
     case rel=>exact⟨k+1,by omega,by go_num,aA,aP.out⟩
     case measure=>simp[intOf];omega
    ·have e:k=m:=by omega
     subst e
     go_wp2
     go_ret
     exact⟨w5.heap.size,rfl,a9.size,a8.to (fun j hj=>by simp[zL,hj]),a9.trans (N.mono a9.size)⟩
end Go.Proofs.YtlopecgkiikdhaaGreatDoor
