import Derived.Test.YtlopecgkiikdhaaGreatDoorX07
namespace Go.Proofs.YtlopecgkiikdhaaGreatDoor
open Go.RowKit
set_option maxRecDepth 100000
set_option maxHeartbeats 4000000
def zM (l:List (ByteArray×Nat)):Nat:=(l.map (·.2)).sum
theorem zHM:∀(l:List (ByteArray×Nat)) (i:Nat) (h:i<l.length),(enV l)[i*2]? =some (.string l[i].1)∧(enV l)[i*2+1]? =some (.int .i64 l[i].2)
 |x::r,0,_=>by simp[enV]
 |x::r,i+1,h=>by
  have:=zHM r i (by simpa using h)
  simpa[enV,Nat.succ_mul] using this
theorem zC9 {w:World}{B n c:Nat}{a:Option Addr}{l:List (ByteArray×Nat)}(G:l.length=n)(h:w.ownsRow B 131 2 (.slice a n c) n (enV l))(i:Nat)(hi:i<l.length):∃g,a=some ⟨g,0,none⟩∧g<w.heap.size∧w.cell? ⟨g,i*2,none⟩=some (.string l[i].1)∧w.cell? ⟨g,i*2+1,none⟩=some (.int .i64 l[i].2):=by
 subst G
 rcases h.2 with ⟨_,J⟩|⟨g,u,cur,j,hb,F,_⟩
 ·omega
 ·obtain rfl:a=some ⟨g,0,none⟩:=by simp at j;exact j.1
  have A:=h.cellAt (i*2) (by omega)
  have D:=h.cellAt (i*2+1) (by omega)
  exact⟨g,rfl,(Array.getElem?_eq_some_iff.1 F).1,A.trans (zHM l i hi).1,D.trans (zHM l i hi).2⟩
theorem zBL:∀(l:List (ByteArray×Nat)) (i:Nat) (h:i<l.length),zM (l.take (i+1))=zM (l.take i)+l[i].2
 |x::r,0,_=>by simp[zM]
 |x::r,i+1,h=>by
  have:=zBL r i (by simpa using h)
  simp only[zM,List.take_succ_cons,List.map_cons,List.sum_cons,List.getElem_cons_succ]at this ⊢
  omega
theorem zEq (b B n c:Nat)(a:Option Addr)(es:List (ByteArray×Nat))(w:World)(hc:w.cell? ⟨b,6,none⟩=some (.slice a n c))(G:es.length=n)(U:w.ownsRow B 131 2 (.slice a n c) n (enV es))(hs:∀i,zM (es.take i)≤1000000)(a7:n≤1000):
 Calls Tryz.prog 142 #[.pointer (some ⟨b,0,none⟩)] w fun e w'=>e=.returned (.int .i64 (zM es))∧Below w.heap.size w w':=by
 have HC:Hid _:=fun i hi=>zC9 G U i hi
 have HS:Hid _:=hs
 have Q:Hid _:=G
 clear U hs G
 go_enter Tryz.func142,Tryz.ntmps142
 go_wp2_with fail
 go_loopw [3,5,11] (fun sv _ N wr=>∃i:Nat,i≤n∧N=.int .i64 i∧sv=.int .i64 (zM (es.take i))∧Below w.heap.size w wr) (fun _ _ N _=>n-(intOf N).toNat)
 case atStart=>exact⟨0,by omega,rfl,by simp[zM],Below.refl _ _⟩
 case round=>
  obtain⟨i,hi,rfl,rfl,hb⟩:=hrel
  have HB:Hid _:=hb
  by_cases F:i<n
  ·have u:i<es.length:=by rw[Q.out];exact F
   obtain⟨g,ha,j,W,Z⟩:=HC.out i u
   subst ha
   have y0:=(hb.cell (p:=⟨g,i*2,none⟩) j).trans W
   have y1:=(hb.cell (p:=⟨g,i*2+1,none⟩) j).trans Z
   have D:Hid _:=zBL es i u
   have R:=HS.out (i+1)
   rw[D.out]at R
   obtain⟨t,A⟩:∃t,zM (es.take i)=t:=⟨_,rfl⟩
   obtain⟨X,hX⟩:∃X,es[i].1=X:=⟨_,rfl⟩
   obtain⟨y,J⟩:∃y,es[i].2=y:=⟨_,rfl⟩
   rw[A,J]at D R
   rw[A]
   rw[hX]at y0
   rw[J]at y1
   have a6:(i:Int)<(n:Int):=by omega
   clear W Z hb A hX J
   go_wp2
   go_roundw
   case rel=>exact⟨i+1,by omega,by go_num,by rw[D.out];go_num,HB.out.alloc HB.out.size _⟩
   case measure=>simp[intOf];omega
  ·have ei:i=n:=by omega
   subst ei
   have A:es.take i=es:=List.take_of_length_le (by rw[Q.out];exact Nat.le_refl _)
   rw[A]
   go_wp2
   go_ret
   exact⟨rfl,HB.out⟩
theorem zHW (b B n c K M C V:Nat)(a:Option Addr)(es:List (ByteArray×Nat))(w:World)(c2:w.cell? ⟨b,2,none⟩=some (.int .i64 K))(c3:w.cell? ⟨b,3,none⟩=some (.int .i64 M))(c4:w.cell? ⟨b,4,none⟩=some (.int .i64 C))(c5:w.cell? ⟨b,5,none⟩=some (.int .i64 V))
 (hc:w.cell? ⟨b,6,none⟩=some (.slice a n c)) (hn:es.length=n) (ho:w.ownsRow B 131 2 (.slice a n c) n (enV es)) (hs:∀i,zM (es.take i)≤100000) (Q:n≤1000) (hK:1≤K) (a8:K+M≤255) (hC:1≤C) (G:C≤64):
 Calls Tryz.prog 102 #[.pointer (some ⟨b,0,none⟩)] w fun e w'=>e=.returned (.int .i64 (nst (K*C) (zM es)*(K+M):Nat))∧Below w.heap.size w w':=by
 have R:0<K*C:=Nat.mul_pos hK hC
 have U:K*C≤100000:=Nat.le_trans (Nat.mul_le_mul (show K≤255 by omega) G) (by omega)
 have N:zM es≤100000:=by have:=hs es.length;rw[List.take_length]at this;exact this
 have j:b<w.heap.size:=block_lt_of_cell c2
 have H1:Hid (∀X:World,Below w.heap.size w X→Calls Tryz.prog 142 #[.pointer (some ⟨b,0,none⟩)] X fun e w'=>e=.returned (.int .i64 (zM es))∧Below X.heap.size X w'):=fun X hX=>zEq b B n c a es X ((hX.cell (p:=⟨b,6,none⟩) j).trans hc) hn (zI ho hX) (fun i=>Nat.le_trans (hs i) (by omega)) Q
 have W:Hid (∀X:World,Calls Tryz.prog 141 #[.agg #[.int .i64 K,.int .i64 M,.int .i64 C,.int .i64 V],.int .i64 (zM es)] X fun e w'=>e=.returned (.int .i64 (nst (K*C) (zM es)*(K+M):Nat))∧Below X.heap.size X w'):=fun X=>zB9 K M C V (zM es) (K*C) X rfl R U N (by omega) (by omega)
 obtain⟨Z,J⟩:∃Z,nst (K*C) (zM es)*(K+M)=Z:=⟨_,rfl⟩
 rw[J]at W ⊢
 clear hc hn ho hs
 go_enter Tryz.func102,Tryz.ntmps102
 go_wp2_with fail
 go_region_held3 (fun F=>F.cell? ⟨b,2,none⟩=some (.int .i64 K)∧F.cell? ⟨b,3,none⟩=some (.int .i64 M)∧F.cell? ⟨b,4,none⟩=some (.int .i64 C)∧F.cell? ⟨b,5,none⟩=some (.int .i64 V)) (go_keep) (first|(go_at_call 142;refine Calls.mono (H1.out _ (by first|exact Below.refl _ _|exact (Below.refl _ _).drew)) ?_;rintro e w1 ⟨rfl,D⟩;have u:Below w.heap.size w w1:=(by first|exact D|exact ((Below.refl _ _).drew).trans D);have q2:=(u.cell (p:=⟨b,2,none⟩) j).trans c2;have q3:=(u.cell (p:=⟨b,3,none⟩) j).trans c3;have q4:=(u.cell (p:=⟨b,4,none⟩) j).trans c4;have q5:=(u.cell (p:=⟨b,5,none⟩) j).trans c5)|(go_at_call 141;refine Calls.mono (W.out _) ?_;rintro e F ⟨rfl,hb2⟩;have A:Below w.heap.size w F:=(u.trans (hb2.mono u.size));have u2:=(A.cell (p:=⟨b,2,none⟩) j).trans c2;have u3:=(A.cell (p:=⟨b,3,none⟩) j).trans c3;have u4:=(A.cell (p:=⟨b,4,none⟩) j).trans c4;have u5:=(A.cell (p:=⟨b,5,none⟩) j).trans c5))
 have HB:Hid _:=A
 clear u A D hb2 q2 q3 q4 q5 u2 u3 u4 u5
 go_wp2
 go_ret
 exact⟨rfl,HB.out⟩
theorem ze {s:RS}{lo:Nat}{hi:Int}(h:(s.num lo hi).1.wrong=false):s.wrong=false∧lo≤(s.num lo hi).2∧((s.num lo hi).2:Int)≤hi:=by
 unfold RS.num at h ⊢
 cases hw:s.wrong with
 |true=>rw[hw]at h;simp only[if_true]at h;rw[hw]at h;cases h
 |false=>
  rw[hw]at h
  simp only[Bool.false_eq_true,if_false]at h ⊢
  split at h
  ·cases h
  ·rename_i hn
   rw[if_neg hn]
   simp only[not_or]at hn
   exact⟨trivial,by show lo≤(vrd (s.text.extract s.next s.text.size)).1;omega,by show ((vrd (s.text.extract s.next s.text.size)).1:Int)≤hi;omega⟩
theorem zR {s:RS}{n:Nat}(h:(s.bytes n).1.wrong=false):s.wrong=false:=by
 unfold RS.bytes at h
 cases hw:s.wrong with
 |true=>rw[hw]at h;simp only[if_true]at h;rw[hw]at h;cases h
 |false=>rfl
theorem zMw {s:RS}{t:ByteArray}(h:(s.word t).wrong=false):s.wrong=false:=by
 unfold RS.word at h
 split at h
 ·exact zR h
 ·cases h
theorem zJU {s:RS}{b:ByteArray}{l:Int}(h:(s.entry b l).1.wrong=false):s.wrong=false:=by
 have j:=(ze (show ((if leT ((s.num 1 255).1.bytes (s.num 1 255).2).2 b then ((s.num 1 255).1.bytes (s.num 1 255).2).1.refuse else ((s.num 1 255).1.bytes (s.num 1 255).2).1).num 0 l).1.wrong=false from h)).1
 split at j
 ·cases j
 ·exact (ze (zR j)).1
theorem zBV:∀(k:Nat) (s:RS) (nm:ByteArray) (j:Int) (u:List (ByteArray×Nat)),(RS.ents k s nm j u).1.wrong=false→s.wrong=false
 |0,_,_,_,_,h=>h
 |k+1,_,_,_,_,h=>zJU (zBV k _ _ _ _ h)
theorem zFV:∀(k:Nat) (s:RS) (nm:ByteArray) (j:Int) (u:List (ByteArray×Nat)),(RS.ents k s nm j u).2.length=u.length+k
 |0,s,nm,j,u=>rfl
 |k+1,s,nm,j,u=>by
  rw[RS.ents,zFV k]
  simp;omega
theorem zFj (l r:List (ByteArray×Nat)):zM (l++r)=zM l+zM r:=by simp[zM]
theorem zFX:∀(k:Nat) (s:RS) (nm:ByteArray) (j:Int) (u:List (ByteArray×Nat)),0≤j→(zM (RS.ents k s nm j u).2:Int)≤zM u+j
 |0,s,nm,j,u,h=>by show (zM u:Int)≤_;omega
 |k+1,s,nm,j,u,h=>by
  have F:=zDA s nm j h
  have A:=zFX k (s.entry nm j).1 (s.entry nm j).2.1 (j-(s.entry nm j).2.2) (u++[((s.entry nm j).2.1,(s.entry nm j).2.2)]) (by omega)
  rw[RS.ents]
  rw[zFj]at A
  have D:zM [((s.entry nm j).2.1,(s.entry nm j).2.2)]=(s.entry nm j).2.2:=by simp[zM]
  rw[D]at A
  omega
theorem zDG (s:RS):s.list.es.length≤16:=by
 unfold RS.list
 show (RS.ents _ _ _ _ _).2.length≤16
 rw[zFV]
 have:=zAn ((((((s.word ⟨#[86,76,84,49]⟩).num 1 255).1.num 0 (255-(((s.word ⟨#[86,76,84,49]⟩).num 1 255).2:Int))).1.num 1 64).1.num 1 16).1) 0 16
 simp only[List.length_nil,Nat.zero_add]
 exact this
theorem zDH (s:RS):zM s.list.es≤4096:=by
 unfold RS.list
 have:=zFX (((((((s.word ⟨#[86,76,84,49]⟩).num 1 255).1.num 0 (255-(((s.word ⟨#[86,76,84,49]⟩).num 1 255).2:Int))).1.num 1 64).1.num 1 16).1.num 0 16).2) (((((((s.word ⟨#[86,76,84,49]⟩).num 1 255).1.num 0 (255-(((s.word ⟨#[86,76,84,49]⟩).num 1 255).2:Int))).1.num 1 64).1.num 1 16).1.num 0 16).1) ⟨#[]⟩ 4096 [] (by omega)
 have j:zM ([]:List (ByteArray×Nat))=0:=rfl
 rw[j]at this
 show zM (RS.ents _ _ _ _ _).2≤4096
 omega
theorem zQ (l:List (ByteArray×Nat))(i:Nat):zM (l.take i)≤zM l:=by
 have h:zM l=zM (l.take i)+zM (l.drop i):=by rw[←zFj,List.take_append_drop]
 omega
theorem zCK {s:RS}(h:s.list.st.wrong=false):s.wrong=false∧1≤s.list.K∧s.list.K+s.list.M≤255∧1≤s.list.C∧s.list.C≤64∧1≤s.list.V∧s.list.V≤16:=by
 unfold RS.list at h ⊢
 simp only at h ⊢
 have G:=ze (zBV _ _ _ _ _ h)
 have u:=ze G.1
 have j:=ze u.1
 have D:=ze j.1
 have A:=ze D.1
 have F:=zMw A.1
 refine⟨F,A.2.1,?_,j.2.1,?_,u.2.1,?_⟩
 ·have:=D.2.2;omega
 ·have:=j.2.2;omega
 ·have:=u.2.2;omega
def Adv (s s':RS):Prop:=s'.text=s.text∧s.next≤s'.next
theorem Adv.trans {a b c:RS}(h:Adv a b)(j:Adv b c):Adv a c:=⟨j.1.trans h.1,Nat.le_trans h.2 j.2⟩
theorem zk (s:RS)(lo:Nat)(hi:Int):Adv s (s.num lo hi).1:=by
 unfold RS.num
 split
 ·exact⟨rfl,Nat.le_refl _⟩
 ·split
  ·exact⟨rfl,Nat.le_refl _⟩
  ·exact⟨rfl,Nat.le_add_right _ _⟩
theorem zZ (s:RS)(n:Nat):Adv s (s.bytes n).1:=by
 unfold RS.bytes
 split
 ·exact⟨rfl,Nat.le_refl _⟩
 ·split
  ·exact⟨rfl,Nat.le_refl _⟩
  ·exact⟨rfl,Nat.le_add_right _ _⟩
theorem zAR (s:RS)(t:ByteArray):Adv s (s.word t):=by
 unfold RS.word
 split
 ·exact zZ s _
 ·exact zZ s _
theorem zDv (s:RS)(b:ByteArray)(l:Int):Adv s (s.entry b l).1:=by
 have j:Adv s ((s.num 1 255).1.bytes (s.num 1 255).2).1:=(zk s 1 255).trans (zZ _ _)
 have u:Adv s (if leT ((s.num 1 255).1.bytes (s.num 1 255).2).2 b then ((s.num 1 255).1.bytes (s.num 1 255).2).1.refuse else ((s.num 1 255).1.bytes (s.num 1 255).2).1):=by
  split
  ·exact j
  ·exact j
 exact u.trans (zk _ 0 l)
theorem zBq:∀(k:Nat) (s:RS) (nm:ByteArray) (j:Int) (u:List (ByteArray×Nat)),Adv s (RS.ents k s nm j u).1
 |0,_,_,_,_=>⟨rfl,Nat.le_refl _⟩
 |k+1,s,nm,j,_=>(zDv s nm j).trans (zBq k _ _ _ _)
theorem zAC (s:RS):Adv s s.list.st:=by
 unfold RS.list
 exact (zAR s _).trans ((zk _ _ _).trans ((zk _ _ _).trans ((zk _ _ _).trans ((zk _ _ _).trans ((zk _ _ _).trans (zBq _ _ _ _ _))))))
structure TT where
 st:RS
 root:ByteArray
 lst:ByteArray
 L:LT
 num:Nat
 lv:ByteArray
def LT.cnt (l:LT):Nat:=nst (l.K*l.C) (zM l.es)*(l.K+l.M)
def RS.told (s:RS):TT:=
 let s0:=s.word ⟨#[86,79,76,49]⟩
 let a:=s0.bytes 32
 let l:=a.1.list
 let b:=l.st.num 0 ((l.V:Int)-1)
 let c:=(if 512<l.cnt then b.1.refuse else b.1).bytes (l.cnt*32)
 if b.1.wrong then ⟨b.1,a.2,l.st.text.extract a.1.next l.st.next,l,b.2,⟨#[]⟩⟩ else ⟨c.1,a.2,l.st.text.extract a.1.next l.st.next,l,b.2,c.2⟩
def row (n:Nat)(f:Nat→Int):Array Value:=Array.ofFn (n:=n) fun i=>Value.int .u32 (f i.val)
def upd (f:Nat→Int)(k:Nat)(v:Int):Nat→Int:=fun j=>if j=k then v else f j
theorem zU (n:Nat)(f:Nat→Int):(row n f).size=n:=by simp[row]
theorem zDY (n:Nat)(f:Nat→Int)(k:Nat)(h:k<n):(row n f)[k]? =some (.int .u32 (f k)):=by
 simp[row,h]
theorem zMb (n:Nat)(f:Nat→Int)(k:Nat)(v:Int):(row n f).setIfInBounds k (.int .u32 v)=row n (upd f k v):=by
 apply Array.ext_getElem?
 intro i
 rw[Array.getElem?_setIfInBounds,zU]
 by_cases hi:i<n
 ·rw[zDY n f i hi,zDY n _ i hi]
  by_cases h:k=i
  ·subst h;simp[hi,upd]
  ·simp[h,upd,Ne.symm h]
 ·have j:(row n f)[i]? =none:=by simp[row,hi]
  have u:(row n (upd f k v))[i]? =none:=by simp[row,hi]
  rw[j,u]
  by_cases h:k=i
  ·subst h;simp[hi]
  ·simp[h]
theorem zBS (n:Nat)(f g:Nat→Int)(h:∀j,j<n→f j=g j):row n f=row n g:=by
 apply Array.ext
 ·simp[row]
 ·intro i u A
  simp only[row,Array.getElem_ofFn]
  rw[h i (by simpa[row] using u)]
theorem zAO (n:Nat)(f:Nat→Int):(row n f).all (·.oneCell')=true:=by
 rw[Array.all_eq_true_iff_forall_mem]
 intro v j
 simp only[row,Array.mem_ofFn]at j
 obtain⟨i,rfl⟩:=j
 rfl
theorem zDl:row 64 (fun _=>0)=Array.replicate 64 (Value.int .u32 0):=by
 apply Array.ext
 ·simp[row]
 ·intro i j u;simp[row]
def Words (w:World)(g n:Nat)(t:TypeId)(f:Nat→Int):Prop:=w.heap[g]? =some (.cells (row n f) t (0,0))
theorem Words.cell {w:World}{g n:Nat}{t:TypeId}{f:Nat→Int}(h:Words w g n t f)(k:Nat)(hk:k<n):w.cell? ⟨g,k,none⟩=some (.int .u32 (f k)):=by
 rw[cell_of_row w g k _ t _ h,zDY n f k hk]
theorem Words.free {w:World}{g n:Nat}{t:TypeId}{f:Nat→Int}(h:Words w g n t f)(k:Nat):w.frozen? ⟨g,k,none⟩=false:=frozen_of_row w g k _ t h
theorem Words.put {w:World}{g n:Nat}{t:TypeId}{f:Nat→Int}(h:Words w g n t f)(k:Nat)(v:Int):Words (w.setCell ⟨g,k,none⟩ (.int .u32 v)) g n t (upd f k v):=by
 have:=heap_setCell_same w g k _ t (.int .u32 v) h
 rwa [zMb]at this
theorem Words.drew {w:World}{g n:Nat}{t:TypeId}{f:Nat→Int}(h:Words w g n t f):Words w.drew g n t f:=h
theorem Words.other {w:World}{g n:Nat}{t:TypeId}{f:Nat→Int}(h:Words w g n t f)(a:Addr)(v:Value)(j:g≠a.block):Words (w.setCell a v) g n t f:=by
 unfold Words;rw[heap_setCell_other w a g v j];exact h
theorem Words.lt {w:World}{g n:Nat}{t:TypeId}{f:Nat→Int}(h:Words w g n t f):g<w.heap.size:=(Array.getElem?_eq_some_iff.1 h).1
theorem Words.alloc {w:World}{g n:Nat}{t:TypeId}{f:Nat→Int}(h:Words w g n t f)(o:Obj):Words (w.alloc o) g n t f:=by
 unfold Words;rw[Below.heap_alloc w o g h.lt];exact h
theorem Words.below {w w':World}{g n:Nat}{t:TypeId}{f:Nat→Int}(h:Words w g n t f){B:Nat}(hb:Below B w w')(j:g<B):Words w' g n t f:=by
 unfold Words;rw[hb.block g j];exact h
def byt (s:ByteArray)(i:Nat):Int:=((s.data.toList.getD i 0).toNat:Int)
def zAi (x:Int)(n:Nat):Int:=bits .or .u32 (x/2 ^ n) (x*2 ^ (32-n)%4294967296)
def sg0 (x:Int):Int:=bits .xor .u32 (bits .xor .u32 (zAi x 7) (zAi x 18)) (x/8)
def sg1 (x:Int):Int:=bits .xor .u32 (bits .xor .u32 (zAi x 17) (zAi x 19)) (x/1024)
def zGT (s:ByteArray)(k:Nat):Int:=
 bits .or .u32 (bits .or .u32 (bits .or .u32 (byt s (4*k)%4294967296*16777216%4294967296) (byt s (4*k+1)%4294967296*65536%4294967296)) (byt s (4*k+2)%4294967296*256%4294967296)) (byt s (4*k+3)%4294967296)
def zBk (s:ByteArray)(k:Nat):Int:=
 (byt s (4*k)%4294967296*16777216+byt s (4*k+1)%4294967296*65536+byt s (4*k+2)%4294967296*256+byt s (4*k+3))%4294967296
def wrd (f:Nat→Int)(i:Nat):Int:=
 if _h:i<16 then f i else (wrd f (i-16)+sg0 (wrd f (i-15))+wrd f (i-7)+sg1 (wrd f (i-2)))%4294967296
theorem zGJ (f:Nat→Int)(i:Nat)(h:i<16):wrd f i=f i:=by rw[wrd,dif_pos h]
theorem zGI (f:Nat→Int)(i:Nat)(h:¬i<16):wrd f i=(wrd f (i-16)+sg0 (wrd f (i-15))+wrd f (i-7)+sg1 (wrd f (i-2)))%4294967296:=by rw[wrd,dif_neg h]
theorem zEX (f g:Nat→Int)(h:∀j,j<16→f j=g j)(i:Nat):wrd f i=wrd g i:=by
 induction i using Nat.strongRecOn with
 |ind i ih=>
  by_cases hi:i<16
  ·rw[zGJ f i hi,zGJ g i hi,h i hi]
  ·rw[zGI f i hi,zGI g i hi,ih (i-16) (by omega),ih (i-15) (by omega),ih (i-7) (by omega),ih (i-2) (by omega)]
theorem zH5 (a b:Int):bits .or .u32 a b=bits .or .u32 b a:=by
 unfold bits
 simp only[BitVec.or_comm]
theorem zAH (s:ByteArray)(i:Nat)(h:i<s.size)(W:World)(j:Int)(u:j=(i:Int)):(Instr.index 9 (.string s) (.int .i64 j)).run Tryz.prog W=.ok (.int .u8 (byt s i)) W:=by
 subst u
 rw[run_index_string W 9 s .i64 i Tryz.underlying9,dif_pos ⟨by omega,by omega⟩]
 have hs:i<s.data.toList.length:=h
 have e:byt s i=((s[i]'h).toNat:Int):=by
  unfold byt
  rw[List.getD_eq_getElem?_getD,List.getElem?_eq_getElem hs]
  rfl
 rw[e]
 rfl
set_option maxHeartbeats 400000 in
theorem zMZ (x:Int)(n:Nat)(k:Int)(w:World)(hk:bits BinOp.and IntKind.u64 (IntKind.u64.wrap k) 31=((32-n:Nat):Int))(D:1≤n)(G:n≤32):
 Calls Tryz.prog 182 #[.int .u32 x,.int .i64 k] w fun e w'=>e=.returned (.int .u32 (zAi x n))∧w'=w:=by
 obtain⟨s,hs⟩:∃s:Int,s=((32-n:Nat):Int):=⟨_,rfl⟩
 rw[←hs]at hk
 have A:0≤s:=by omega
 have F:s≤31:=by omega
 have j:s.toNat=32-n:=by omega
 have u:(32-s).toNat=n:=by omega
 have e:bits BinOp.or IntKind.u32 (x*2 ^ s.toNat%4294967296) (x/2 ^ (32-s).toNat)=zAi x n:=by rw[j,u,zH5];rfl
 have E:Hid (bits BinOp.or IntKind.u32 (x*2 ^ s.toNat%4294967296) (x/2 ^ (32-s).toNat)=zAi x n):=e
 clear e j u hs
 go_enter Tryz.func182,Tryz.ntmps182
 go_wp2
 go_ret
 rw[E.out]
 exact⟨rfl,rfl⟩
theorem zOp:∀m:Fin 31,bits BinOp.and IntKind.u64 (IntKind.u64.wrap (-((m.val:Int)+1))) 31=((32-(m.val+1):Nat):Int):=by decide
theorem zKy (x k:Int)(w:World)(A: -31≤k)(D:k≤ -1):
 Calls Tryz.prog 182 #[.int .u32 x,.int .i64 k] w fun e w'=>e=.returned (.int .u32 (zAi x (-k).toNat))∧w'=w:=by
 have h:=zOp ⟨(-k).toNat -1,by omega⟩
 have j: -((((-k).toNat -1:Nat):Int)+1)=k:=by omega
 have u:32-((-k).toNat -1+1)=32-(-k).toNat:=by omega
 simp only[j,u]at h
 exact zMZ x (-k).toNat k w h (by omega) (by omega)
theorem zBK {w wr:World}{f g:Nat→Int}{k:Nat}{v:Int}(hb:Below w.heap.size w wr)(A:wr.heap.size=w.heap.size+2)(G:Words wr w.heap.size 64 232 (fun _=>0))(hf:Words wr (w.heap.size+1) 64 232 f)(u:∀j,j<k→f j=g j)(F:v=g k):
 Below w.heap.size w (wr.setCell ⟨w.heap.size+1,k,none⟩ (.int .u32 v))∧(wr.setCell ⟨w.heap.size+1,k,none⟩ (.int .u32 v)).heap.size=w.heap.size+2∧
 Words (wr.setCell ⟨w.heap.size+1,k,none⟩ (.int .u32 v)) w.heap.size 64 232 (fun _=>0)∧∃D,Words (wr.setCell ⟨w.heap.size+1,k,none⟩ (.int .u32 v)) (w.heap.size+1) 64 232 D∧∀j,j<k+1→D j=g j:=by
 refine⟨hb.setCell (by simp) _,by simp[World.setCell];exact A,G.other _ _ (by simp),upd f k v,hf.put k v,fun j J=> ?_⟩
 unfold upd
 by_cases h:j=k
 ·rw[if_pos h,h,F]
 ·rw[if_neg h];exact u j (by omega)
theorem zT {B:Nat}{a w:World}(h:Below B a w)(g:Nat)(u:B≤g)(j:Array Value):Below B a (w.setRow g j):=
 h.trans ⟨rfl,rfl,rfl,by simp,fun k hk=>setRow_other w g k j (by omega)⟩
theorem zFd:(Tryz.prog.info? 232).map (·.size)=some 64:=by kernel_rfl
theorem zCG:(Tryz.prog.info? 190).map (·.size)=some 8:=by kernel_rfl
def Tab (w:World)(g:Nat)(f:Nat→Int):Prop:=∀k,k<64→w.cell? ⟨g,k,none⟩=some (.int .u32 (f k))
theorem Tab.below {w w':World}{g:Nat}{f:Nat→Int}(h:Tab w g f){B:Nat}(hb:Below B w w')(j:g<B):Tab w' g f:=fun k hk=>(hb.cell (p:=⟨g,k,none⟩) j).trans (h k hk)
theorem zAS {w:World}{g n:Nat}{t:TypeId}{old:Array Value}(f:Nat→Int)(h:w.heap[g]? =some (.cells old t (0,0))):Words (w.setRow g (row n f)) g n t f:=setRow_heap w g old _ t _ h
theorem Words.setRow_other {w:World}{g n:Nat}{t:TypeId}{f:Nat→Int}(h:Words w g n t f)(k:Nat)(j:Array Value)(hk:g≠k):Words (w.setRow k j) g n t f:=by
 unfold Words;rw[Go.setRow_other w k g j hk];exact h
theorem zf {P:Program}{A:Array Oper}{j:List Oper}{o:Oper}{a:Act}{w:World}{Q:Exit→Act→World→Prop}(D:o.guard=none)(hd:o.dst=none)(F:TypeId)(x y:Operand)(R:o.op=.store F x y)
 (g:Nat) (cells:Array Value) (U:a.eval x=.pointer (some ⟨g,0,none⟩)) (W:a.eval y=.agg cells)
 (t:TypeId) (old:Array Value) (N:w.heap[g]? =some (.cells old t (0,0))) (hi:(P.info? F).map (·.size)=some cells.size)
 (u:old.size=cells.size) (J:cells.all (·.oneCell')=true)
 (h:∀G,Hid (G=w.setRow g cells)→wpList P A Q j a G):wpList P A Q (o::j) a w:=
 wpList_store_row D F x y R g cells U W t old N hi u J (by rw[hd];exact h _ rfl)
set_option maxHeartbeats 1000000 in
theorem zIc (s:ByteArray)(w:World)(h0:s.size=64):
 Calls Tryz.prog 181 #[.string s] w fun e w'=>e=.returned (.agg (row 64 (wrd (zGT s))))∧Below w.heap.size w w':=by
 go_enter Tryz.func181,Tryz.ntmps181
 go_wp2
 go_loopw [8] (fun i wr=>∃k:Nat,k≤16∧i=.int .i64 k∧Below w.heap.size w wr∧wr.heap.size=w.heap.size+2∧Words wr w.heap.size 64 232 (fun _=>0)∧∃f,Words wr (w.heap.size+1) 64 232 f∧∀j,j<k→f j=wrd (zGT s) j) (fun i _=>16-(intOf i).toNat)
 case atStart=>
  refine⟨0,by omega,rfl,?_,?_,?_,(fun _=>0),?_,fun j hj=>by omega⟩
  ·exact ((Below.refl _ _).alloc (Nat.le_refl _) _).alloc (by simp) _
  ·simp
  ·unfold Words;rw[zDl];exact heap_alloc2_old _ _ _
  ·unfold Words;rw[zDl];exact heap_alloc2_new _ _ _
 case round=>
  obtain⟨k,hk,rfl,hb,A,F,f,hf,u⟩:=hrel
  by_cases N:k<16
  ·have a1:=hf.cell k (by omega)
   have a2:=hf.free k
   have i0:=fun W=>zAH s (4*k) (by omega) W (4*(k:Int)) (by omega)
   have i1:=fun W=>zAH s (4*k+1) (by omega) W (4*(k:Int)+1) (by omega)
   have i2:=fun W=>zAH s (4*k+2) (by omega) W (4*(k:Int)+2) (by omega)
   have i3:=fun W=>zAH s (4*k+3) (by omega) W (4*(k:Int)+3) (by omega)
   have U:Hid _:=u
   clear u
   go_wp2
   go_region
   go_wp2
   go_roundw
   case rel=>
    exact⟨k+1,by omega,by go_num,zBK hb.drew A F hf U.out (zGJ (zGT s) k N).symm⟩
   case measure=>simp[intOf];omega
  ·have G:k=16:=by omega
   subst G
   have R:Hid _:=u
   clear u
   go_wp2
   go_loopw [5] (fun i wr=>∃k:Nat,16≤k∧k≤64∧i=.int .i64 k∧Below w.heap.size w wr∧wr.heap.size=w.heap.size+2∧Words wr w.heap.size 64 232 (fun _=>0)∧∃f,Words wr (w.heap.size+1) 64 232 f∧∀j,j<k→f j=wrd (zGT s) j) (fun i _=>64-(intOf i).toNat)
   case atStart=>exact⟨16,by omega,by omega,rfl,hb,A,F,f,hf,R.out⟩
   case round=>
    clear hf hb A F R
    obtain⟨k,a6,a7,rfl,hb,A,F,f,hf,u⟩:=hrel
    by_cases N:k<64
    ·have a1:=hf.cell k (by omega)
     have a2:=hf.free k
     have X:=hf.cell (k-15) (by omega)
     have h2:=hf.cell (k-2) (by omega)
     have Z:=hf.cell (k-16) (by omega)
     have h7:=hf.cell (k-7) (by omega)
     rw[u (k-15) (by omega)]at X
     rw[u (k-2) (by omega)]at h2
     rw[u (k-16) (by omega)]at Z
     rw[u (k-7) (by omega)]at h7
     have U:Hid _:=u
     clear u
     go_wp2
     go_quiet (fail)
     go_wp2_with (go_at_call 182;refine (zKy _ _ _ (by decide) (by decide)).mono ?_;rintro e w' ⟨rfl,rfl⟩)
     go_region
     go_wp2
     go_roundw
     case rel=>
      repeat apply Exists.intro
      exact⟨⟨k+1,by omega,by omega,by go_num,zBK (below_drewN hb _) A F hf U.out (zGI (zGT s) k (by omega)).symm⟩,rfl⟩
     case measure=>simp[intOf];omega
    ·have J:k=64:=by omega
     subst J
     have R:Hid _:=u
     clear u
     have D:(Tryz.prog.info? 232).map (·.size)=some (row 64 f).size:=by rw[zU];exact zFd
     have Q:(row 64 (fun _=>0)).size=(row 64 f).size:=by simp[zU]
     go_wp2_with (first|(refine wpList_load_row rfl 232 (.tmp 3) rfl (w.heap.size+1) rfl 232 (row 64 f) (0,0) _ hf Tryz.underlying232 rfl D ?_)|(refine wpList_store_row rfl 232 (.tmp 2) (.tmp 86) rfl (w.heap.size) (row 64 f) rfl rfl 232 (row 64 fun _=>0) F D Q (zAO _ _) ?_))
     have e:row 64 f=row 64 (wrd (zGT s)):=zBS 64 _ _ R.out
     refine bodyPost_ret (v:=.agg (row 64 f)) ?_ rfl ?_
     ·exact results_cell_row Tryz.results181 _ _ w.heap.size 232 (row 64 f) (0,0) _ rfl (setRow_heap wr w.heap.size _ _ 232 (0,0) F) Tryz.underlying232 rfl D
     ·rw[e]
      exact⟨rfl,zT hb _ (Nat.le_refl _) _⟩
set_option maxHeartbeats 400000 in
theorem zKK (x:Int)(n:Nat)(m:Int)(w:World)(A:m=n)(G:n≤32):
 Calls Tryz.prog 145 #[.int .u32 x,.int .u32 m] w fun e w'=>e=.returned (.int .u32 (zAi x n))∧w'=w:=by
 have D:0≤m:=by omega
 have F:m≤32:=by omega
 have j:m.toNat=n:=by omega
 have u:(32-m).toNat=32-n:=by omega
 have e:bits BinOp.or IntKind.u32 (x/2 ^ m.toNat) (x*2 ^ (32-m).toNat %4294967296)=zAi x n:=by rw[j,u];rfl
 have E:Hid (bits BinOp.or IntKind.u32 (x/2 ^ m.toNat) (x*2 ^ (32-m).toNat %4294967296)=zAi x n):=e
 clear e j u A
 go_enter Tryz.func145,Tryz.ntmps145
 go_wp2
 go_ret
 rw[E.out]
 exact⟨rfl,rfl⟩
theorem zDf (x n:Int)(w:World)(j:0≤n)(u:n≤32):
 Calls Tryz.prog 145 #[.int .u32 x,.int .u32 n] w fun e w'=>e=.returned (.int .u32 (zAi x n.toNat))∧w'=w:=
 zKK x n.toNat n w (by omega) (by omega)
set_option maxHeartbeats 1000000 in
theorem zI1 (s:ByteArray)(w:World)(h0:s.size=64):
 Calls Tryz.prog 144 #[.string s] w fun e w'=>e=.returned (.agg (row 64 (wrd (zBk s))))∧Below w.heap.size w w':=by
 go_enter Tryz.func144,Tryz.ntmps144
 go_wp2
 go_loopw [4] (fun i wr=>∃k:Nat,k≤16∧i=.int .i64 k∧Below w.heap.size w wr∧wr.heap.size=w.heap.size+2∧Words wr w.heap.size 64 232 (fun _=>0)∧∃f,Words wr (w.heap.size+1) 64 232 f∧∀j,j<k→f j=wrd (zBk s) j) (fun i _=>16-(intOf i).toNat)
 case atStart=>
  refine⟨0,by omega,rfl,?_,?_,?_,(fun _=>0),?_,fun j hj=>by omega⟩
  ·exact ((Below.refl _ _).alloc (Nat.le_refl _) _).alloc (by simp) _
  ·simp
  ·unfold Words;rw[zDl];exact heap_alloc2_old _ _ _
  ·unfold Words;rw[zDl];exact heap_alloc2_new _ _ _
 case round=>
  obtain⟨k,hk,rfl,hb,D,G,f,hf,u⟩:=hrel
  by_cases a1:k<16
  ·have R:=hf.cell k (by omega)
   have U:=hf.free k
   have i0:=fun W=>zAH s (4*k) (by omega) W (4*(k:Int)) (by omega)
   have i1:=fun W=>zAH s (4*k+1) (by omega) W (4*(k:Int)+1) (by omega)
   have i2:=fun W=>zAH s (4*k+2) (by omega) W (4*(k:Int)+2) (by omega)
   have i3:=fun W=>zAH s (4*k+3) (by omega) W (4*(k:Int)+3) (by omega)
   have HJ:Hid _:=u
   clear u
   go_wp2
   go_region
   go_wp2
   go_roundw
   case rel=>
    exact⟨k+1,by omega,by go_num,zBK hb.drew D G hf HJ.out (zGJ (zBk s) k a1).symm⟩
   case measure=>simp[intOf];omega
  ·have X:k=16:=by omega
   subst X
   have HF:Hid _:=u
   clear u
   go_wp2
   go_loopw [5] (fun i wr=>∃k:Nat,16≤k∧k≤64∧i=.int .i64 k∧Below w.heap.size w wr∧wr.heap.size=w.heap.size+2∧Words wr w.heap.size 64 232 (fun _=>0)∧∃f,Words wr (w.heap.size+1) 64 232 f∧∀j,j<k→f j=wrd (zBk s) j) (fun i _=>64-(intOf i).toNat)
   case atStart=>exact⟨16,by omega,by omega,rfl,hb,D,G,f,hf,HF.out⟩
   case round=>
    clear hf hb D G HF
    obtain⟨k,aC,aD,rfl,hb,D,G,f,hf,u⟩:=hrel
    by_cases a1:k<64
    ·have R:=hf.cell k (by omega)
     have U:=hf.free k
     have N:=hf.cell (k-15) (by omega)
     have h2:=hf.cell (k-2) (by omega)
     have Q:=hf.cell (k-16) (by omega)
     have h7:=hf.cell (k-7) (by omega)
     rw[u (k-15) (by omega)]at N
     rw[u (k-2) (by omega)]at h2
     rw[u (k-16) (by omega)]at Q
     rw[u (k-7) (by omega)]at h7
     have HJ:Hid _:=u
     clear u
     go_wp2
     go_quiet ((go_at_call 145;exact Calls.quiet_of_same (zDf _ _ _ (by decide) (by decide))))
     go_wp2
     obtain⟨F,A⟩:∃F,F=wr.drewN nq:=⟨_,rfl⟩
     rw[←A]
     have a7:Below w.heap.size w F:=by rw[A];exact below_drewN hb _
     have a4:F.heap.size=w.heap.size+2:=by rw[A];exact D
     have a9:Words F w.heap.size 64 232 (fun _=>0):=by rw[A];exact G
     have a8:Words F (w.heap.size+1) 64 232 f:=by rw[A];exact hf
     rw[show wr.cell? ⟨w.heap.size+1,k,none⟩=F.cell? ⟨w.heap.size+1,k,none⟩ by rw[A];rfl]at R
     rw[show wr.frozen? ⟨w.heap.size+1,k,none⟩=F.frozen? ⟨w.heap.size+1,k,none⟩ by rw[A];rfl]at U
     rw[show wr.cell? ⟨w.heap.size+1,k-2,none⟩=F.cell? ⟨w.heap.size+1,k-2,none⟩ by rw[A];rfl]at h2
     rw[show wr.cell? ⟨w.heap.size+1,k-16,none⟩=F.cell? ⟨w.heap.size+1,k-16,none⟩ by rw[A];rfl]at Q
     rw[show wr.cell? ⟨w.heap.size+1,k-7,none⟩=F.cell? ⟨w.heap.size+1,k-7,none⟩ by rw[A];rfl]at h7
     clear A hb D G hf N
     go_quiet ((go_at_call 145;exact Calls.quiet_of_same (zDf _ _ _ (by decide) (by decide))))
     go_wp2
     go_region
     go_wp2
     go_roundw
     case rel=>
      exact⟨k+1,by omega,by omega,by go_num,zBK (below_drewN a7 _) a4 a9 a8 HJ.out (zGI (zBk s) k (by omega)).symm⟩
     case measure=>simp[intOf];omega
    ·have Z:k=64:=by omega
     subst Z
     have HF:Hid _:=u
     clear u
     have J:(Tryz.prog.info? 232).map (·.size)=some (row 64 f).size:=by rw[zU];exact zFd
     have a2:(row 64 (fun _=>0)).size=(row 64 f).size:=by simp[zU]
     go_wp2_with (first|(refine wpList_load_row rfl 232 (.tmp 3) rfl (w.heap.size+1) rfl 232 (row 64 f) (0,0) _ hf Tryz.underlying232 rfl J ?_)|(refine wpList_store_row rfl 232 (.tmp 2) (.tmp 96) rfl (w.heap.size) (row 64 f) rfl rfl 232 (row 64 fun _=>0) G J a2 (zAO _ _) ?_))
     have e:row 64 f=row 64 (wrd (zBk s)):=zBS 64 _ _ HF.out
     refine bodyPost_ret (v:=.agg (row 64 f)) ?_ rfl ?_
     ·exact results_cell_row Tryz.results144 _ _ w.heap.size 232 (row 64 f) (0,0) _ rfl (setRow_heap wr w.heap.size _ _ 232 (0,0) G) Tryz.underlying232 rfl J
     ·rw[e]
      exact⟨rfl,zT hb _ (Nat.le_refl _) _⟩
end Go.Proofs.YtlopecgkiikdhaaGreatDoor
