import Derived.Test.YtlopecgkiikdhaaGreatDoorX04
import Derived.Test.YtlopecgkiikdhaaGreatDoorX09
import Derived.Test.YtlopecgkiikdhaaGreatDoorX10
namespace Go.Proofs.YtlopecgkiikdhaaGreatDoor
open Go.RowKit
theorem zE5 (kt:Nat→Int)(st:Nat→Int)(s:ByteArray)(w:World)(j:s.size=64)(A:Tab w 2 kt)(u:4≤w.heap.size):
 Calls Tryz.prog 105 #[.agg #[.int .u32 (st 0),.int .u32 (st 1),.int .u32 (st 2),.int .u32 (st 3),.int .u32 (st 4),.int .u32 (st 5),.int .u32 (st 6),.int .u32 (st 7)],.string s] w fun e w'=>∃y,Hid (y=zBQ kt (wrd (zBk s)) st)∧
  e=.returned (.agg #[.int .u32 (y 0),.int .u32 (y 1),.int .u32 (y 2),.int .u32 (y 3),.int .u32 (y 4),.int .u32 (y 5),.int .u32 (y 6),.int .u32 (y 7)])∧Below w.heap.size w w':=
 (zE4 kt st s w j A u).mono fun _ _ h=>⟨_,rfl,h.1,h.2⟩
theorem zO5 (w:World)(a b c d:Int):∀j u,[Value.int .u8 a,.int .u8 b,.int .u8 c,.int .u8 d][j]? =some u→((w.alloc (.cells #[.int .u8 a,.int .u8 b,.int .u8 c,.int .u8 d] 5)).drew).cell? ((⟨w.heap.size,0,none⟩:Addr).add j)=some u:=by
 intro j u A
 match j,A with
 |0,A=>simp at A;subst A;simp[Addr.add]
 |1,A=>simp at A;subst A;simp[Addr.add]
 |2,A=>simp at A;subst A;simp[Addr.add]
 |3,A=>simp at A;subst A;simp[Addr.add]
theorem zO7 (a b c d:Int):∀u∈[Value.int .u8 a,.int .u8 b,.int .u8 c,.int .u8 d],u.oneCell'=true:=by
 intro u j;simp at j;rcases j with rfl|rfl|rfl|rfl<;>rfl
theorem zEo {w w':World}{g n:Nat}{t:TypeId}{f:Nat→Int}{row:Option Nat}(h:Words w g n t f)(j:w.grownBy w' row)(u:∀k,row=some k→g+1≤k):Words w' g n t f:=by
 unfold Words
 rw[j.block g h.lt (fun e=>by have:=u g e.symm;omega)]
 exact h
theorem zIM (s:ByteArray):(zGl s).size=64*((s.size+72)/64):=by
 unfold zGl;rw[zCR,zAp];unfold nz;omega
def zPm (kt:Nat→Int)(s:ByteArray):ByteArray:=strOfNums (tl (pcs kt (zGl s) zEp ((s.size+72)/64)) 8)
set_option maxHeartbeats 1000000 in
set_option maxRecDepth 100000 in
theorem zDX (kt:Nat→Int)(s:ByteArray)(w:World)(h0:s.size≤140737488351232)(hT:Tab w 2 kt)(hH:∀j,j<8→w.cell? ⟨0,j,none⟩=some (.int .u32 (zEp j)))(h3:4≤w.heap.size):
 Calls Tryz.prog 77 #[.string s] w fun e w'=>e=.returned (.string (zPm kt s))∧Below w.heap.size w w':=by
 have HT:Hid _:=hT
 have X:Hid _:=hH
 clear hT hH
 obtain⟨m,hm⟩:∃m,m=zGl s:=⟨_,rfl⟩
 obtain⟨n,hn⟩:∃n,n=(s.size+72)/64:=⟨_,rfl⟩
 have Z:Hid (m.size=64*n):=by rw[hm,hn];exact zIM s
 have bE:m.size≤140737488355328:=by have:=Z.out;omega
 have HD:Hid (zPm kt s=strOfNums (tl (pcs kt m zEp n) 8)):=by rw[hm,hn];rfl
 have a6:=zGm s w h0
 rw[←hm]at a6
 have aH:Hid _:=a6
 clear hm hn a6
 obtain⟨x,hx⟩:∃x,x=zEp:=⟨_,rfl⟩
 rw[←hx]at HD X
 clear hx
 go_enter Tryz.func77,Tryz.ntmps77
 go_wp2_with fail
 refine (Calls.mono aH.out ?_)
 rintro e w1 ⟨rfl,u⟩
 have F:0<w.heap.size:=by omega
 have g0:=(u.cell (p:=⟨0,0,none⟩) F).trans (X.out 0 (by omega))
 have g1:=(u.cell (p:=⟨0,1,none⟩) F).trans (X.out 1 (by omega))
 have g2:=(u.cell (p:=⟨0,2,none⟩) F).trans (X.out 2 (by omega))
 have g3:=(u.cell (p:=⟨0,3,none⟩) F).trans (X.out 3 (by omega))
 have g4:=(u.cell (p:=⟨0,4,none⟩) F).trans (X.out 4 (by omega))
 have g5:=(u.cell (p:=⟨0,5,none⟩) F).trans (X.out 5 (by omega))
 have g6:=(u.cell (p:=⟨0,6,none⟩) F).trans (X.out 6 (by omega))
 have g7:=(u.cell (p:=⟨0,7,none⟩) F).trans (X.out 7 (by omega))
 go_wp2
 have a7:w.heap.size≤w1.heap.size:=u.size
 have aB:Words (w1.alloc (Obj.cells #[Value.int IntKind.u32 (x 0),Value.int IntKind.u32 (x 1),Value.int IntKind.u32 (x 2),Value.int IntKind.u32 (x 3),Value.int IntKind.u32 (x 4),Value.int IntKind.u32 (x 5),Value.int IntKind.u32 (x 6),Value.int IntKind.u32 (x 7)] 190)) w1.heap.size 8 190 x:=heap_alloc_new _ _
 have aC:Below w.heap.size w (w1.alloc (Obj.cells #[Value.int IntKind.u32 (x 0),Value.int IntKind.u32 (x 1),Value.int IntKind.u32 (x 2),Value.int IntKind.u32 (x 3),Value.int IntKind.u32 (x 4),Value.int IntKind.u32 (x 5),Value.int IntKind.u32 (x 6),Value.int IntKind.u32 (x 7)] 190)):=u.alloc a7 _
 clear g0 g1 g2 g3 g4 g5 g6 g7 u
 generalize w1.heap.size=g at*
 go_loopw [5] (fun i wr=>∃k:Nat,k≤n∧i=.int .i64 ((64*k:Nat):Int)∧Below w.heap.size w wr∧Words wr g 8 190 (pcs kt m x k)) (fun i _=>m.size-(intOf i).toNat)
 case atStart=>exact⟨0,by omega,rfl,aC,aB⟩
 case round=>
  clear aB aC
  obtain⟨k,hk,rfl,hb,J⟩:=hrel
  by_cases a2:k<n
  ·obtain⟨D,a1⟩:∃m:Nat,m=64*k:=⟨_,rfl⟩
   have bC:D+64≤m.size:=by have:=Z.out;omega
   rw[←a1]
   have N:Hid (D=64*k):=a1
   clear a1
   obtain⟨y,hy⟩:∃y,pcs kt m x k=y:=⟨_,rfl⟩
   have HY:Hid (pcs kt m x k=y):=hy
   rw[hy]at J
   clear hy
   obtain⟨c0,c1,c2,c3,c4,c5,c6,c7,cf⟩:=J.cells8
   obtain⟨q,HQ,hq,bH⟩:∃q,Hid (q=zBB m k)∧q.size=64∧∀W,(Instr.slice 9 (.string m) (some (.int .i64 (D:Int))) (some (.int .i64 ((D:Int)+64))) none).run Tryz.prog W=.ok (.string q) W:=by
    refine⟨zBB m k,rfl,zCx m k (by have:=N.out;omega),fun W=> ?_⟩
    rw[run_slice_string W 9 m .i64 .i64 _ _ Tryz.underlying9 (by omega) (by omega) (by omega)]
    have e1:((D:Int)).toNat=64*k:=by have:=N.out;omega
    have e2:((D:Int)+64).toNat=64*k+64:=by have:=N.out;omega
    rw[e1,e2];rfl
   have bK:IntKind.i64.wrap ((D:Int)+64)=(D:Int)+64:=by rw[IntKind.wrap_i64];omega
   have aL:Tab wr.drew 2 kt:=Tab.below HT.out hb.drew (by omega)
   have aK:4≤wr.drew.heap.size:=Nat.le_trans h3 hb.size
   have R:g<wr.drew.heap.size:=J.lt
   go_wp2
   go_region_with (go_at_call 105;refine (zE5 kt y q wr.drew hq aL aK).mono ?_;rintro e w' ⟨z,hz,rfl,Q⟩;obtain⟨d0,d1,d2,d3,d4,d5,d6,d7,df⟩:=(J.drew.below Q R).cells8)
   go_wp2
   go_roundw
   case rel=>
    have e:pcs kt m x (k+1)=z:=by
     show zBQ kt (wrd (zBk (zBB m k))) (pcs kt m x k)=z
     rw[hz.out,HY.out,HQ.out]
    refine⟨k+1,by omega,by have:=N.out;go_num,?_,?_⟩
    ·exact (hb.drew.trans (Q.mono (Nat.le_trans a7 (Nat.le_of_lt R)))).trans ((zAv (Below.refl g _)).mono a7)
    ·rw[e];exact zOT (J.drew.below Q R)
   case measure=>have:=N.out;have:=Z.out;simp[intOf];omega
  ·have aM:k=n:=by omega
   subst aM
   obtain⟨y,hy⟩:∃y,pcs kt m x k=y:=⟨_,rfl⟩
   have HY:Hid (pcs kt m x k=y):=hy
   rw[hy]at J
   clear hy
   obtain⟨mm,hm⟩:∃mm:Nat,mm=64*k:=⟨_,rfl⟩
   rw[←hm]
   have bF:m.size≤mm:=by have:=Z.out;omega
   have bD:decide (mm<m.size)=false:=by simp;omega
   clear hm
   go_wp2
   obtain⟨i0,hi,aR,aS,aT⟩:=info_parts zJe
   go_loopw [7,6] (fun i v wr=>∃k:Nat,k≤8∧i=.int .i64 k∧wr.ownsRow (g+1) 5 1 v (4*k) ((tl y k).map (Value.int .u8))∧Below w.heap.size w wr∧Words wr g 8 190 y) (fun i _ _=>8-(intOf i).toNat)
   case atStart=>exact⟨0,by omega,rfl,World.ownsRow_nil _ _ _ _,hb,J⟩
   case round=>
    clear hb J
    obtain⟨j,hj,rfl,A,hb,J⟩:=hrel
    by_cases a2:j<8
    ·have c1:=J.cell j a2
     go_wp2
     have aN:4*j+4≤maxLen:=by unfold maxLen;omega
     have aO:(4*j+4)*1≤140737488355328:=by omega
     have aD:g+1≤((wr.alloc (.cells #[.int .u8 (IntKind.u8.wrap (y j/16777216)),.int .u8 (IntKind.u8.wrap (y j/65536)),.int .u8 (IntKind.u8.wrap (y j/256)),.int .u8 (IntKind.u8.wrap (y j))] 5)).drew).heap.size:=by have:=J.lt;show g+1≤(wr.alloc _).heap.size;simp;omega
     have bB:(0:Int)≤(j:Int):=by omega
     have aE:(j:Int)<8:=by omega
     have aQ:=World.new_ne wr _ c1
     go_region_held3 (fun w'=>w'.cell? ⟨g,j,none⟩=some (.int .u32 (y j))) (go_keep) (first|(refine zAM rfl (.tmp 28) (.tmp 48) 173 rfl 5 i0 (.int .u8 0) 1 1 Tryz.underlying173 hi aR aS aT rfl (by decide) (g+1) _ (4*j) ((tl y j).map (Value.int .u8)) (by simp[Act.eval];rfl) (by exact (A.alloc _).drew) ⟨wr.heap.size,0,none⟩ 4 4 [.int .u8 (IntKind.u8.wrap (y j/16777216)),.int .u8 (IntKind.u8.wrap (y j/65536)),.int .u8 (IntKind.u8.wrap (y j/256)),.int .u8 (IntKind.u8.wrap (y j))] (by simp[Act.eval]) rfl (by exact zO5 _ _ _ _ _) (zO7 _ _ _ _) aN aO (by exact aD) ?_;intro v' w' U G;have aA:=zEo (J.alloc _).drew G (zK A);have aJ:=aA.cell j a2))
     have Q:Below w.heap.size w w':=((hb.alloc hb.size _).drew).grown G (by have:=hb.size;show w.heap.size≤(wr.alloc _).heap.size;simp;omega) (fun k hk=>by have:=zK A k hk;omega)
     have a5:w'.ownsRow (g+1) 5 1 v' (4*(j+1)) ((tl y (j+1)).map (Value.int .u8)):=by
      have e:4*(j+1)=4*j+4:=by omega
      rw[e]
      simpa[tl,IntKind.wrap_u8'] using U
     clear U G A hb c1 aJ J aQ aD
     go_wp2
     go_roundw
     case rel=>
      exact⟨j+1,by omega,by go_num,a5,Q,aA⟩
     case measure=>simp[intOf];omega
    ·have aE:j=8:=by omega
     subst aE
     rcases A.2 with ⟨_,h'⟩|⟨g',a9,cur,hv,_⟩
     ·omega
     ·subst hv
      have bA:=run_convert_bytes_arg (P:=Tryz.prog) wr 173 5 Tryz.underlying173 Tryz.underlying5 g' 0 (4*8) a9 (tl y 8) (zEQ y 8) (fun i hi=>by
       rw[Nat.zero_add,A.cellAt i (by omega)]
       have hl:i<(tl y 8).length:=by rw[zEQ];omega
       rw[List.getElem?_map,List.getElem?_eq_getElem hl,List.getD_eq_getElem?_getD,List.getElem?_eq_getElem hl];rfl) 9 Tryz.underlying9
      go_wp2
      go_ret
      exact⟨by rw[HD.out,←HY.out];rfl,hb⟩
theorem zFP (s:ByteArray)(i:Nat)(h:s.size≤i):byt s i=0:=by
 unfold byt
 rw[List.getD_eq_getElem?_getD,List.getElem?_eq_none (by simpa using h)]
 rfl
theorem zBU (a b:ByteArray)(i:Nat):byt (a++b) i=if i<a.size then byt a i else byt b (i-a.size):=by
 unfold byt
 rw[ByteArray.data_append,Array.toList_append,List.getD_eq_getElem?_getD,List.getElem?_append]
 have e:a.data.toList.length=a.size:=by simp
 rw[e]
 by_cases h:i<a.size
 ·rw[if_pos h,if_pos h,List.getD_eq_getElem?_getD]
 ·rw[if_neg h,if_neg h,List.getD_eq_getElem?_getD]
theorem zA6 (s:ByteArray)(a b i:Nat)(h:a+i<b):byt (s.extract a b) i=byt s (a+i):=by
 by_cases hs:a+i<s.size
 ·have j:i<(s.extract a b).size:=by rw[ByteArray.size_extract];omega
  rw[zEh _ i j,zEh _ (a+i) hs]
  simp[ByteArray.data_extract]
 ·rw[zFP s (a+i) (by omega),zFP]
  rw[ByteArray.size_extract];omega
theorem zDq (s:ByteArray)(j i:Nat)(h:i<64):byt (zBB s j) i=byt s (64*j+i):=by
 unfold zBB;exact zA6 s _ _ i (by omega)
theorem zHg (p q:ByteArray)(h:∀i,i<64→byt p i=byt q i)(j:Nat)(u:j<16):zBk p j=zBk q j:=by
 unfold zBk
 rw[h (4*j) (by omega),h (4*j+1) (by omega),h (4*j+2) (by omega),h (4*j+3) (by omega)]
theorem zE3 (kt:Nat→Int)(m q:ByteArray)(st:Nat→Int)(a:Nat):∀b,(∀i,i<64*b→byt q i=byt m (64*a+i))→pcs kt m st (a+b)=pcs kt q (pcs kt m st a) b
 |0,_=>rfl
 |b+1,h=>by
  have D:=zE3 kt m q st a b (fun i hi=>h i (by omega))
  show zBQ kt (wrd (zBk (zBB m (a+b)))) (pcs kt m st (a+b))=zBQ kt (wrd (zBk (zBB q b))) (pcs kt q (pcs kt m st a) b)
  have A:wrd (zBk (zBB m (a+b)))=wrd (zBk (zBB q b)):=funext fun i=>zEX _ _ (fun j u=>zHg _ _ (fun i hi=>by
   rw[zDq m (a+b) i hi,zDq q b i hi,h (64*b+i) (by omega)]
   congr 1;omega) j u) i
  rw[A,D]
theorem zHG (n:Nat)(f:Nat→Int)(i:Nat)(hi:i<n)(j:0≤f i)(u:f i≤255):byt (txt n f) i=f i:=by
 unfold byt txt
 rw[strOfNums_data,List.getD_eq_getElem?_getD]
 simp[hi]
 omega
theorem zLO (v:Int)(j:0≤v)(u:v≤255):byt (strOfNums [v]) 0=v:=by
 unfold byt
 rw[strOfNums_data]
 simp
 omega
theorem zFx (s:ByteArray):∀k i,i<s.size+1+k→byt (zIL s k) i=if i<s.size then byt s i else if i=s.size then 128 else 0
 |0,i,hi=>by
  show byt (s++⟨#[128]⟩) i=_
  rw[zBU]
  by_cases h:i<s.size
  ·rw[if_pos h,if_pos h]
  ·have e:i=s.size:=by omega
   rw[if_neg h,if_neg h,if_pos e,e,Nat.sub_self];rfl
 |k+1,i,hi=>by
  show byt (zIL s k++⟨#[0]⟩) i=_
  rw[zBU,zAp]
  by_cases h:i<s.size+1+k
  ·rw[if_pos h];exact zFx s k i h
  ·have e:i-(s.size+1+k)=0:=by omega
   rw[if_neg h,e,if_neg (by omega),if_neg (by omega)];rfl
theorem zJh (n j:Nat):((n:Int)*8/2 ^ (8*(7-j))).tmod 256%256=(n:Int)*8/2 ^ (8*(7-j))%256:=by
 have hp:(0:Int)<2 ^ (8*(7-j)):=Int.pow_pos (by omega)
 have u:0≤(n:Int)*8/2 ^ (8*(7-j)):=Int.ediv_nonneg (by omega) (by omega)
 rw[Int.tmod_eq_emod_of_nonneg u]
 omega
theorem zFy (a s:ByteArray):∀k i,i<a.size+k→byt (zI9 a s k) i=if i<a.size then byt a i else (s.size:Int)*8/2 ^ (8*(7-(i-a.size)))%256
 |0,i,hi=>by rw[if_pos (by omega)];rfl
 |k+1,i,hi=>by
  show byt (zI9 a s k++strOfNums [((s.size:Int)*8/2 ^ (8*(7-k))).tmod 256%256]) i=_
  rw[zBU,zCR]
  by_cases h:i<a.size+k
  ·rw[if_pos h];exact zFy a s k i h
  ·have e:i-(a.size+k)=0:=by omega
   have j:i-a.size=k:=by omega
   rw[if_neg h,e,if_neg (by omega),j,zLO _ (by omega) (by omega),zJh]
theorem zFz (s:ByteArray)(i:Nat)(hi:i<64*((s.size+72)/64)):byt (zGl s) i=if 64*((s.size+72)/64)-8≤i then (s.size:Int)*8/2 ^ (8*(64*((s.size+72)/64)-1-i))%256 else if i<s.size then byt s i else if i=s.size then 128 else 0:=by
 have j:s.size+1+nz s=64*((s.size+72)/64)-8:=by unfold nz;omega
 unfold zGl
 rw[zFy _ _ 8 i (by rw[zAp];omega),zAp,j]
 by_cases h:i<64*((s.size+72)/64)-8
 ·rw[if_pos h,if_neg (by omega),zFx s _ i (by omega)]
 ·rw[if_neg h,if_pos (by omega),show 7-(i-(64*((s.size+72)/64)-8))=64*((s.size+72)/64)-1-i by omega]
theorem zDU (s:ByteArray)(n sz i:Nat):0≤zDT s n sz 8 i∧zDT s n sz 8 i≤255:=by
 unfold zDT
 by_cases j:sz-8≤i
 ·rw[if_pos j];omega
 ·rw[if_neg j]
  by_cases u:i<s.size
  ·rw[if_pos u];exact⟨zDp s i,zDo s i⟩
  ·rw[if_neg u]
   by_cases A:i=s.size
   ·rw[if_pos A];omega
   ·rw[if_neg A];omega
theorem zJw (s:ByteArray)(n i:Nat)(hi:i<64*zCk s):byt (zI8 s n) i=zDT s n (64*zCk s) 8 i:=by
 unfold zI8
 unfold zCk at hi ⊢
 by_cases h:s.size<56
 ·rw[if_pos h]at hi ⊢
  rw[if_pos h]
  exact zHG 64 _ i hi (zDU ..).1 (zDU ..).2
 ·rw[if_neg h]at hi ⊢
  rw[if_neg h]
  exact zHG 128 _ i hi (zDU ..).1 (zDU ..).2
theorem zGh (kt:Nat→Int)(s:ByteArray):ofT kt s=strOfNums (tl (pcs kt (zGl s) zEp ((s.size+72)/64)) 8):=by
 unfold ofT
 obtain⟨r,j⟩:∃r,r=s.extract (64*(s.size/64)) s.size:=⟨_,rfl⟩
 have J:r.size=s.size-64*(s.size/64):=by rw[j,ByteArray.size_extract];omega
 rw[←j]
 have F:(s.size+72)/64=s.size/64+zCk r:=by
  unfold zCk
  by_cases h:r.size<56
  ·rw[if_pos h];omega
  ·rw[if_neg h];omega
 have D:pcs kt (zGl s) zEp (0+s.size/64)=pcs kt (s.extract 0 (64*(s.size/64))) (pcs kt (zGl s) zEp 0) (s.size/64):=by
  apply zE3
  intro i hi
  rw[zA6 s 0 _ i (by omega),Nat.mul_zero,Nat.zero_add,zFz s i (by omega),if_neg (by omega),if_pos (by omega)]
 have G:pcs kt (zGl s) zEp (s.size/64+zCk r)=pcs kt (zI8 r s.size) (pcs kt (zGl s) zEp (s.size/64)) (zCk r):=by
  apply zE3
  intro i hi
  rw[zJw r _ i hi,zFz s _ (by omega),F]
  unfold zDT
  rw[show 64*(s.size/64+zCk r)=64*(s.size/64)+64*zCk r by omega]
  by_cases u:64*zCk r-8≤i
  ·rw[if_pos u,if_pos (by omega),show 64*(s.size/64)+64*zCk r-1-(64*(s.size/64)+i)=64*zCk r-1-i by omega]
  ·rw[if_neg u,if_neg (show ¬ 64*(s.size/64)+64*zCk r-8≤64*(s.size/64)+i by omega)]
   by_cases A:i<r.size
   ·rw[if_pos A,if_pos (by omega),j,zA6 s _ _ i (by omega)]
   ·rw[if_neg A,if_neg (show ¬ 64*(s.size/64)+i<s.size by omega)]
    by_cases a3:i=r.size
    ·rw[if_pos a3,if_pos (by omega)]
    ·rw[if_neg a3,if_neg (by omega)]
 rw[Nat.zero_add]at D
 rw[F,G,D]
 rfl
structure Gd (kt:Nat→Int)(w:World):Prop where
 tab:Tab w 3 kt
 one:4≤w.heap.size
theorem Gd.below {kt:Nat→Int}{w w':World}(h:Gd kt w)(hb:Below w.heap.size w w'):Gd kt w':=
 ⟨h.tab.below hb (by have:=h.one;omega),Nat.le_trans h.one hb.size⟩
structure Gr (kt:Nat→Int)(w:World):Prop where
 ref:Tab w 2 kt
 first:∀j,j<8→w.cell? ⟨0,j,none⟩=some (.int .u32 (zEp j))
 one:4≤w.heap.size
theorem Gr.below {kt:Nat→Int}{w w':World}(h:Gr kt w)(hb:Below w.heap.size w w'):Gr kt w':=
 ⟨h.ref.below hb (by have:=h.one;omega),fun j u=>(hb.cell (p:=⟨0,j,none⟩) (by have:=h.one;show 0<w.heap.size;omega)).trans (h.first j u),Nat.le_trans h.one hb.size⟩
structure Ge (w:World):Prop where
 err:w.cell? ⟨1,0,none⟩=some (.iface 238 (.agg #[.pointer (some ⟨7,41,none⟩)]))
theorem zb (kt:Nat→Int)(s:ByteArray)(w:World)(hs:s.size≤140737488351232)(j:Gr kt w):
 Calls Tryz.prog 77 #[.string s] w fun e w'=>e=.returned (.string (ofT kt s))∧Below w.heap.size w w':=by
 rw[zGh];exact zDX kt s w hs j.ref j.first (by have:=j.one;omega)
end Go.Proofs.YtlopecgkiikdhaaGreatDoor
namespace Go.Proofs.YtlopecgkiikdhaaGreatDoor
def hf (n:Nat):Nat:=2 ^ Nat.log2 (n-1)
theorem zFa (n:Nat):0<hf n:=Nat.two_pow_pos _
theorem zHX (n:Nat)(h:2≤n):hf n<n:=by
 have:=Nat.log2_self_le (n:=n-1) (by omega)
 unfold hf;omega
theorem zNU (k n:Nat)(u:2 ^ k<n)(A:n≤2*2 ^ k):2 ^ k=hf n:=by
 unfold hf
 have j:n-1≠0:=by have:=Nat.two_pow_pos k;omega
 rw[(Nat.log2_eq_iff (k:=k) j).2 ⟨by omega,by rw[Nat.pow_succ];omega⟩]
def jn (D:ByteArray→ByteArray)(a b:ByteArray):ByteArray:=D (⟨#[1]⟩++a++b)
def zAj (D:ByteArray→ByteArray)(n:Nat)(L:Nat→ByteArray):ByteArray:=
 if _h:n<2 then (if n=0 then D ⟨#[]⟩ else L 0)
 else
  have _h1:hf n<n:=zHX n (by omega)
  have _h2:0<hf n:=zFa n
  jn D (zAj D (hf n) L) (zAj D (n-hf n) (fun j=>L (hf n+j)))
theorem zBn (D:ByteArray→ByteArray)(L:Nat→ByteArray):zAj D 0 L=D ⟨#[]⟩:=by rw[zAj];rfl
theorem zER (D:ByteArray→ByteArray)(L:Nat→ByteArray):zAj D 1 L=L 0:=by rw[zAj];rfl
theorem zES (D:ByteArray→ByteArray)(n:Nat)(L:Nat→ByteArray)(h:2≤n):zAj D n L=jn D (zAj D (hf n) L) (zAj D (n-hf n) (fun j=>L (hf n+j))):=by
 rw[zAj,dif_neg (by omega)]
theorem zAe (D:ByteArray→ByteArray)(k:Nat)(j:∀s,(D s).size≤k)(n:Nat)(L:Nat→ByteArray)(h:∀i,i<n→(L i).size≤k):(zAj D n L).size≤k:=by
 by_cases u:n=0
 ·rw[u,zBn];exact j _
 ·by_cases A:n=1
  ·rw[A,zER];exact h 0 (by omega)
  ·rw[zES D n L (by omega)];exact j _
theorem zBd (D:ByteArray→ByteArray):∀(m n:Nat) (L M:Nat→ByteArray),n≤m→(∀i,i<n→L i=M i)→zAj D n L=zAj D n M
 |0,n,L,M,h,e=>by obtain rfl:n=0:=by omega
                  rw[zBn,zBn]
 |m+1,n,L,M,h,e=>by
  by_cases u:n=0
  ·rw[u,zBn,zBn]
  ·by_cases A:n=1
   ·rw[A,zER,zER];exact e 0 (by omega)
   ·have F:=zHX n (by omega)
    have G:=zFa n
    rw[zES D n L (by omega),zES D n M (by omega),zBd D m (hf n) L M (by omega) (fun i hi=>e i (by omega)),zBd D m (n-hf n) (fun j=>L (hf n+j)) (fun j=>M (hf n+j)) (by omega) (fun i hi=>e _ (by omega))]
end Go.Proofs.YtlopecgkiikdhaaGreatDoor
