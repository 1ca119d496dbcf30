import Derived.Test.YtlopecgkiikdhaaGreatDoorProg
import Derived.Test.YtlopecgkiikdhaaGreatDoorX11
import Derived.Lib.BitFns
import Derived.Lib.Repeat
namespace Go.Proofs.YtlopecgkiikdhaaGreatDoor
open Go.RowKit
set_option maxRecDepth 100000
theorem zBj:(⟨(([0,1,2,2,3,3,3,3,4,4,4,4,4,4,4,4,5,5,5,5,5,5,5,5,5,5,5,5,5,5,5,5,6,6,6,6,6,6,6,6,6,6,6,6,6,6,6,6,6,6,6,6,6,6,6,6,6,6,6,6,6,6,6,6].append [7,7,7,7,7,7,7,7,7,7,7,7,7,7,7,7,7,7,7,7,7,7,7,7,7,7,7,7,7,7,7,7,7,7,7,7,7,7,7,7,7,7,7,7,7,7,7,7,7,7,7,7,7,7,7,7,7,7,7,7,7,7,7,7]).append ([8,8,8,8,8,8,8,8,8,8,8,8,8,8,8,8,8,8,8,8,8,8,8,8,8,8,8,8,8,8,8,8,8,8,8,8,8,8,8,8,8,8,8,8,8,8,8,8,8,8,8,8,8,8,8,8,8,8,8,8,8,8,8,8].append [8,8,8,8,8,8,8,8,8,8,8,8,8,8,8,8,8,8,8,8,8,8,8,8,8,8,8,8,8,8,8,8,8,8,8,8,8,8,8,8,8,8,8,8,8,8,8,8,8,8,8,8,8,8,8,8,8,8,8,8,8,8,8,8])).toArray⟩:ByteArray)=Lib.len8tab:=by kernel_rfl
theorem zK1:∃t:ByteArray,Lib.len8tab=t∧∀(y:Nat) (w:World),y<256→(Instr.index 9 (.string t) (.int .u8 (y:Int))).run Tryz.prog w=.ok (.int .u8 (Lib.len8 (y:Int))) w:=
 ⟨_,rfl,fun y w j=>Lib.run_index_len8tab (P:=Tryz.prog) (w:=w) 9 .u8 (y:Int) Tryz.underlying9 (by omega) (by omega)⟩
set_option maxHeartbeats 2000000 in
theorem zL1 (x:Nat)(w:World)(N:x<256):
 Calls Tryz.prog 216 #[.int .u64 x] w fun e w'=>e=.returned (.int .i64 (Lib.bitLen x))∧w'=w:=by
 obtain⟨y,D⟩:∃y:Nat,y=x:=⟨_,rfl⟩
 have j:y<256:=by omega
 have J:(x:Int)=(y:Int):=by omega
 obtain⟨t,A,u⟩:=zK1
 have hi:=fun w=>u y w j
 have hl:Lib.len8 (y:Int)=((Lib.bitLen y:Nat):Int):=Lib.len8_eq ⟨y,j⟩
 have W:Lib.bitLen y≤8:=Lib.bitLen_le8 ⟨y,j⟩
 have F:Lib.bitLen x=0+Lib.bitLen y:=by
  rw[D]
  omega
 have G:Hid _:=F
 rw[hl]at hi
 have Q:decide ((4294967296:Int)≤(x:Int))=false:=by simp;omega
 have R:decide ((65536:Int)≤(x:Int))=false:=by simp;omega
 have U:decide ((256:Int)≤(x:Int))=false:=by simp;omega
 clear u hl F N
 subst D
 clear J
 go_enter Tryz.func216,Tryz.ntmps216
 rw[zBj,A]
 clear A
 go_wp2
 go_ret
 rw[G.out]
 exact⟨by simp,rfl⟩
set_option maxHeartbeats 2000000 in
theorem zL2 (x:Nat)(w:World)(J:256≤x∧x<65536):
 Calls Tryz.prog 216 #[.int .u64 x] w fun e w'=>e=.returned (.int .i64 (Lib.bitLen x))∧w'=w:=by
 obtain⟨y,D⟩:∃y:Nat,y=(x/256):=⟨_,rfl⟩
 have j:y<256:=by omega
 have W:(x:Int)/256=(y:Int):=by omega
 obtain⟨t,A,u⟩:=zK1
 have hi:=fun w=>u y w j
 have hl:Lib.len8 (y:Int)=((Lib.bitLen y:Nat):Int):=Lib.len8_eq ⟨y,j⟩
 have U:Lib.bitLen y≤8:=Lib.bitLen_le8 ⟨y,j⟩
 have F:Lib.bitLen x=8+Lib.bitLen y:=by
  rw[D]
  exact Lib.bitLen_shift8 x (by omega) (by omega)
 have G:Hid _:=F
 rw[hl]at hi
 have N:decide ((4294967296:Int)≤(x:Int))=false:=by simp;omega
 have Q:decide ((65536:Int)≤(x:Int))=false:=by simp;omega
 have R:decide ((256:Int)≤(x:Int))=true:=by simp;omega
 clear u hl F J D
 go_enter Tryz.func216,Tryz.ntmps216
 rw[zBj,A]
 clear A
 go_wp2
 go_ret
 rw[G.out]
 exact⟨by simp,rfl⟩
set_option maxHeartbeats 2000000 in
theorem zL3 (x:Nat)(w:World)(J:65536≤x∧x<16777216):
 Calls Tryz.prog 216 #[.int .u64 x] w fun e w'=>e=.returned (.int .i64 (Lib.bitLen x))∧w'=w:=by
 obtain⟨y,D⟩:∃y:Nat,y=(x/65536):=⟨_,rfl⟩
 have j:y<256:=by omega
 have W:(x:Int)/65536=(y:Int):=by omega
 obtain⟨t,A,u⟩:=zK1
 have hi:=fun w=>u y w j
 have hl:Lib.len8 (y:Int)=((Lib.bitLen y:Nat):Int):=Lib.len8_eq ⟨y,j⟩
 have U:Lib.bitLen y≤8:=Lib.bitLen_le8 ⟨y,j⟩
 have F:Lib.bitLen x=16+Lib.bitLen y:=by
  rw[D]
  exact Lib.bitLen_shift16 x (by omega) (by omega)
 have G:Hid _:=F
 rw[hl]at hi
 have N:decide ((4294967296:Int)≤(x:Int))=false:=by simp;omega
 have Q:decide ((65536:Int)≤(x:Int))=true:=by simp;omega
 have R:decide ((256:Int)≤(x:Int)/65536)=false:=by simp;omega
 clear u hl F J D
 go_enter Tryz.func216,Tryz.ntmps216
 rw[zBj,A]
 clear A
 go_wp2
 go_ret
 rw[G.out]
 exact⟨by simp,rfl⟩
set_option maxHeartbeats 2000000 in
theorem zL4 (x:Nat)(w:World)(J:16777216≤x∧x<4294967296):
 Calls Tryz.prog 216 #[.int .u64 x] w fun e w'=>e=.returned (.int .i64 (Lib.bitLen x))∧w'=w:=by
 obtain⟨y,D⟩:∃y:Nat,y=((x/65536)/256):=⟨_,rfl⟩
 have j:y<256:=by omega
 have W:(x:Int)/65536/256=(y:Int):=by omega
 obtain⟨t,A,u⟩:=zK1
 have hi:=fun w=>u y w j
 have hl:Lib.len8 (y:Int)=((Lib.bitLen y:Nat):Int):=Lib.len8_eq ⟨y,j⟩
 have U:Lib.bitLen y≤8:=Lib.bitLen_le8 ⟨y,j⟩
 have F:Lib.bitLen x=24+Lib.bitLen y:=by
  rw[D]
  rw[Lib.bitLen_shift16 x (by omega) (by omega),Lib.bitLen_shift8 _ (by omega) (by omega)];omega
 have G:Hid _:=F
 rw[hl]at hi
 have N:decide ((4294967296:Int)≤(x:Int))=false:=by simp;omega
 have Q:decide ((65536:Int)≤(x:Int))=true:=by simp;omega
 have R:decide ((256:Int)≤(x:Int)/65536)=true:=by simp;omega
 clear u hl F J D
 go_enter Tryz.func216,Tryz.ntmps216
 rw[zBj,A]
 clear A
 go_wp2
 go_ret
 rw[G.out]
 exact⟨by simp,rfl⟩
set_option maxHeartbeats 2000000 in
theorem zL5 (x:Nat)(w:World)(R:4294967296≤x∧x<1099511627776):
 Calls Tryz.prog 216 #[.int .u64 x] w fun e w'=>e=.returned (.int .i64 (Lib.bitLen x))∧w'=w:=by
 obtain⟨y,D⟩:∃y:Nat,y=(x/4294967296):=⟨_,rfl⟩
 have j:y<256:=by omega
 have Q:(x:Int)/4294967296=(y:Int):=by omega
 obtain⟨t,A,u⟩:=zK1
 have hi:=fun w=>u y w j
 have hl:Lib.len8 (y:Int)=((Lib.bitLen y:Nat):Int):=Lib.len8_eq ⟨y,j⟩
 have W:Lib.bitLen y≤8:=Lib.bitLen_le8 ⟨y,j⟩
 have F:Lib.bitLen x=32+Lib.bitLen y:=by
  rw[D]
  exact Lib.bitLen_shift32 x (by omega) (by omega)
 have G:Hid _:=F
 rw[hl]at hi
 have U:decide ((4294967296:Int)≤(x:Int))=true:=by simp;omega
 have J:decide ((65536:Int)≤(x:Int)/4294967296)=false:=by simp;omega
 have N:decide ((256:Int)≤(x:Int)/4294967296)=false:=by simp;omega
 rw[Q]at J N
 clear u hl F R D
 go_enter Tryz.func216,Tryz.ntmps216
 rw[zBj,A]
 clear A
 go_wp2
 go_ret
 rw[G.out]
 exact⟨by simp,rfl⟩
set_option maxHeartbeats 2000000 in
theorem zL6 (x:Nat)(w:World)(J:1099511627776≤x∧x<281474976710656):
 Calls Tryz.prog 216 #[.int .u64 x] w fun e w'=>e=.returned (.int .i64 (Lib.bitLen x))∧w'=w:=by
 obtain⟨y,D⟩:∃y:Nat,y=((x/4294967296)/256):=⟨_,rfl⟩
 have j:y<256:=by omega
 have W:(x:Int)/4294967296/256=(y:Int):=by omega
 obtain⟨t,A,u⟩:=zK1
 have hi:=fun w=>u y w j
 have hl:Lib.len8 (y:Int)=((Lib.bitLen y:Nat):Int):=Lib.len8_eq ⟨y,j⟩
 have U:Lib.bitLen y≤8:=Lib.bitLen_le8 ⟨y,j⟩
 have F:Lib.bitLen x=40+Lib.bitLen y:=by
  rw[D]
  rw[Lib.bitLen_shift32 x (by omega) (by omega),Lib.bitLen_shift8 _ (by omega) (by omega)];omega
 have G:Hid _:=F
 rw[hl]at hi
 have N:decide ((4294967296:Int)≤(x:Int))=true:=by simp;omega
 have Q:decide ((65536:Int)≤(x:Int)/4294967296)=false:=by simp;omega
 have R:decide ((256:Int)≤(x:Int)/4294967296)=true:=by simp;omega
 clear u hl F J D
 go_enter Tryz.func216,Tryz.ntmps216
 rw[zBj,A]
 clear A
 go_wp2
 go_ret
 rw[G.out]
 exact⟨by simp,rfl⟩
set_option maxHeartbeats 2000000 in
theorem zL7 (x:Nat)(w:World)(J:281474976710656≤x∧x<72057594037927936):
 Calls Tryz.prog 216 #[.int .u64 x] w fun e w'=>e=.returned (.int .i64 (Lib.bitLen x))∧w'=w:=by
 obtain⟨y,D⟩:∃y:Nat,y=((x/4294967296)/65536):=⟨_,rfl⟩
 have j:y<256:=by omega
 have W:(x:Int)/4294967296/65536=(y:Int):=by omega
 obtain⟨t,A,u⟩:=zK1
 have hi:=fun w=>u y w j
 have hl:Lib.len8 (y:Int)=((Lib.bitLen y:Nat):Int):=Lib.len8_eq ⟨y,j⟩
 have U:Lib.bitLen y≤8:=Lib.bitLen_le8 ⟨y,j⟩
 have F:Lib.bitLen x=48+Lib.bitLen y:=by
  rw[D]
  rw[Lib.bitLen_shift32 x (by omega) (by omega),Lib.bitLen_shift16 _ (by omega) (by omega)];omega
 have G:Hid _:=F
 rw[hl]at hi
 have N:decide ((4294967296:Int)≤(x:Int))=true:=by simp;omega
 have Q:decide ((65536:Int)≤(x:Int)/4294967296)=true:=by simp;omega
 have R:decide ((256:Int)≤(x:Int)/4294967296/65536)=false:=by simp;omega
 clear u hl F J D
 go_enter Tryz.func216,Tryz.ntmps216
 rw[zBj,A]
 clear A
 go_wp2
 go_ret
 rw[G.out]
 exact⟨by simp,rfl⟩
set_option maxHeartbeats 2000000 in
theorem zL8 (x:Nat)(w:World)(J:72057594037927936≤x∧x<18446744073709551616):
 Calls Tryz.prog 216 #[.int .u64 x] w fun e w'=>e=.returned (.int .i64 (Lib.bitLen x))∧w'=w:=by
 obtain⟨y,D⟩:∃y:Nat,y=(((x/4294967296)/65536)/256):=⟨_,rfl⟩
 have j:y<256:=by omega
 have W:(x:Int)/4294967296/65536/256=(y:Int):=by omega
 obtain⟨t,A,u⟩:=zK1
 have hi:=fun w=>u y w j
 have hl:Lib.len8 (y:Int)=((Lib.bitLen y:Nat):Int):=Lib.len8_eq ⟨y,j⟩
 have U:Lib.bitLen y≤8:=Lib.bitLen_le8 ⟨y,j⟩
 have F:Lib.bitLen x=56+Lib.bitLen y:=by
  rw[D]
  rw[Lib.bitLen_shift32 x (by omega) (by omega),Lib.bitLen_shift16 _ (by omega) (by omega),Lib.bitLen_shift8 _ (by omega) (by omega)];omega
 have G:Hid _:=F
 rw[hl]at hi
 have N:decide ((4294967296:Int)≤(x:Int))=true:=by simp;omega
 have Q:decide ((65536:Int)≤(x:Int)/4294967296)=true:=by simp;omega
 have R:decide ((256:Int)≤(x:Int)/4294967296/65536)=true:=by simp;omega
 clear u hl F J D
 go_enter Tryz.func216,Tryz.ntmps216
 rw[zBj,A]
 clear A
 go_wp2
 go_ret
 rw[G.out]
 exact⟨by simp,rfl⟩
theorem zHp (x:Nat)(w:World)(h:x<18446744073709551616):
 Calls Tryz.prog 216 #[.int .u64 x] w fun e w'=>e=.returned (.int .i64 (Lib.bitLen x))∧w'=w:=by
 by_cases j:x<256
 ·exact zL1 x w j
 by_cases u:x<65536
 ·exact zL2 x w ⟨by omega,u⟩
 by_cases A:x<16777216
 ·exact zL3 x w ⟨by omega,A⟩
 by_cases D:x<4294967296
 ·exact zL4 x w ⟨by omega,D⟩
 by_cases F:x<1099511627776
 ·exact zL5 x w ⟨by omega,F⟩
 by_cases G:x<281474976710656
 ·exact zL6 x w ⟨by omega,G⟩
 by_cases J:x<72057594037927936
 ·exact zL7 x w ⟨by omega,J⟩
 exact zL8 x w ⟨by omega,h⟩
theorem zGM (x:Nat)(h:x<2 ^ 64)(j:x≠0):Lib.bitLen x=Nat.log2 x+1:=by
 induction x using Nat.strongRecOn with
 |ind x ih=>
  rw[Lib.bitLen_half x j h,Nat.log2_def]
  by_cases u:x<2
  ·obtain rfl:x=1:=by omega
   rfl
  ·rw[if_pos (by omega),ih (x/2) (by omega) (by omega) (by omega)]
   omega
set_option maxHeartbeats 400000 in
theorem zL9 (x:Nat)(w:World)(h:x<9223372036854775808):
 Calls Tryz.prog 205 #[.int .u64 x] w fun e w'=>e=.returned (.int .i64 (Lib.bitLen x))∧w'=w:=by
 have H:Hid _:=fun W=>zHp x W (by omega)
 go_enter Tryz.func205,Tryz.ntmps205
 go_wp2_with fail
 refine (H.out _).mono ?_
 rintro e w' ⟨rfl,rfl⟩
 go_wp2
 go_ret
 exact⟨rfl,rfl⟩
set_option maxHeartbeats 400000 in
theorem zD4 (n:Nat)(w:World)(G:2≤n)(h:n<9223372036854775808):
 Calls Tryz.prog 193 #[.int .i64 n] w fun e w'=>e=.returned (.int .i64 (hf n:Nat))∧w'=w:=by
 obtain⟨m,F⟩:∃m,n=m+1:=⟨n-1,by omega⟩
 subst F
 have H:Hid _:=fun W=>zL9 m W (by omega)
 obtain⟨k,hk⟩:∃k,k=Nat.log2 m:=⟨_,rfl⟩
 have hl:=zGM m (by omega) (by omega)
 have D:k<63:=by rw[hk];exact (Nat.log2_lt (by omega)).2 (by omega)
 rw[←hk]at hl
 rw[hl]at H
 have u:Hid (hf (m+1)=2 ^ k):=by show hf (m+1)=2 ^ k;unfold hf;rw[hk];rfl
 clear hk hl
 go_enter Tryz.func193,Tryz.ntmps193
 go_wp2_with fail
 refine (H.out _).mono ?_
 rintro e w' ⟨rfl,rfl⟩
 have hp:(2:Int) ^ k≤2 ^ 62:=by exact_mod_cast Nat.pow_le_pow_right (n:=2) (by omega) (show k≤62 by omega)
 have j:(0:Int)<2 ^ k:=by exact_mod_cast Nat.two_pow_pos k
 have A:Hid (wrap64 (2 ^ k)=(2:Int) ^ k):=by show wrap64 (2 ^ k)=(2:Int) ^ k;unfold wrap64;omega
 clear hp j
 go_wp2
 go_ret
 rw[u.out,A.out]
 exact⟨by simp,rfl⟩
theorem zw (kt:Nat→Int)(s:ByteArray):(ofT kt s).size=32:=by
 unfold ofT
 rw[strOfNums_size,zEQ]
theorem zNn (v:Value)(w:World):(method 453 264 v "Join").run Tryz.prog w=.ok (267,v) w:=by kernel_rfl
theorem zMC (v:Value)(w:World):(method 453 264 v "Empty").run Tryz.prog w=.ok (266,v) w:=by kernel_rfl
set_option maxHeartbeats 400000 in
theorem zJf (kt:Nat→Int)(a b:ByteArray)(w:World)(A:a.size≤35184372088832)(hb:b.size≤35184372088832)(j:Gd kt w):
 Calls Tryz.prog 267 #[.string a,.string b] w fun e w'=>e=.returned (.string (jn (ofT kt) a b))∧Below w.heap.size w w':=by
 have hs:((⟨#[1]⟩:ByteArray)++a++b).size≤140737488351232:=by
  simp only[ByteArray.size_append]
  have:(⟨#[1]⟩:ByteArray).size=1:=rfl
  omega
 have H:Hid _:=zCP kt _ w hs j.tab j.one
 clear j hs
 go_enter Tryz.func267,Tryz.ntmps267
 go_wp2_with fail
 refine Calls.mono H.out ?_
 rintro e D ⟨rfl,u⟩
 go_wp2
 go_ret
 exact⟨rfl,u⟩
set_option maxHeartbeats 400000 in
theorem zHL (kt:Nat→Int)(a:ByteArray)(w:World)(j:Gd kt w):
 Calls Tryz.prog 266 #[.string a] w fun e w'=>e=.returned (.string (ofT kt ⟨#[]⟩))∧Below w.heap.size w w':=by
 have H:Hid _:=zCP kt ⟨#[]⟩ w (by decide) j.tab j.one
 clear j
 go_enter Tryz.func266,Tryz.ntmps266
 go_wp2_with fail
 refine Calls.mono H.out ?_
 rintro e A ⟨rfl,u⟩
 go_wp2
 go_ret
 exact⟨rfl,u⟩
set_option maxHeartbeats 400000 in
theorem zGR (b o n j:Nat)(w:World)(u:2≤n)(G:n≤j)(F:j<9223372036854775808):
 Calls Tryz.prog 183 #[.slice (some ⟨b,o,none⟩) n j] w fun e w'=>e=.returned (.tuple #[.slice (some ⟨b,o,none⟩) (hf n) j,.slice (some ⟨b,o+hf n,none⟩) (n-hf n) (j-hf n)])∧∃q,w'=w.drewN q:=by
 have H:Hid _:=fun W=>zD4 n W u (by omega)
 have D:=zHX n u
 obtain⟨m,A⟩:∃m,hf n=m:=⟨_,rfl⟩
 rw[A]at D H ⊢
 clear A
 go_enter Tryz.func183,Tryz.ntmps183
 go_wp2_with fail
 refine (H.out _).mono ?_
 rintro e w' ⟨rfl,rfl⟩
 go_wp2
 go_quiet (fail)
 go_wp2
 go_ret2
 exact⟨rfl,_,rfl⟩
def Co (w:World)(b o n:Nat)(v:Nat→Value):Prop:=∀i,i<n→w.cell? ⟨b,o+i,none⟩=some (v i)
theorem Co.below {w w':World}{b o n:Nat}{v:Nat→Value}(h:Co w b o n v){B:Nat}(hb:Below B w w')(j:b<B):Co w' b o n v:=fun i hi=>(hb.cell (p:=⟨b,o+i,none⟩) j).trans (h i hi)
theorem Co.lo {w:World}{b o n m:Nat}{v:Nat→Value}(h:Co w b o n v)(j:m≤n):Co w b o m v:=fun i hi=>h i (by omega)
theorem Co.hi {w:World}{b o n m:Nat}{L:Nat→ByteArray}(h:Co w b o n (tI L))(u:m≤n):Co w b (o+m) (n-m) (tI fun j=>L (m+j)):=fun i hi=>by
 have:=h (m+i) (by omega)
 rw[←Nat.add_assoc]at this
 exact this
theorem Cl.co {w:World}{b n:Nat}{v:Nat→Value}(h:Cl w b n v):Co w b 0 n v:=fun i hi=>by rw[Nat.zero_add];exact h i hi
theorem zBm (kt:Nat→Int)(s:ByteArray):(ofT kt s).size≤35184372088832:=by rw[zw];omega
set_option maxHeartbeats 1000000 in
theorem zKJ (kt:Nat→Int):∀(n:Nat) (L:Nat→ByteArray) (b o u:Nat) (w:World),n≤u→u<9223372036854775808→Gd kt w→b<w.heap.size→(∀i,i<n→(L i).size≤35184372088832)→Co w b o n (tI L)→
 Calls Tryz.prog 171 #[.slice (some ⟨b,o,none⟩) n u] w fun e w'=>e=.returned (.string (zAj (ofT kt) n L))∧Below w.heap.size w w':=by
 intro n
 induction n using Nat.strongRecOn with
 |ind n ih=>
 intro L b o u w hn hc hG hb U hC
 by_cases h0:n=0
 ·subst h0
  have H:Hid _:=fun a=>zHL kt a w hG
  have hm:=zMC
  rw[zBn]
  clear ih hC U hG
  go_enter Tryz.func171,Tryz.ntmps171
  go_wp2_with fail
  refine Calls.mono (H.out _) ?_
  rintro e w1 ⟨rfl,hB⟩
  go_wp2
  go_ret
  exact⟨rfl,hB⟩
 ·by_cases h1:n=1
  ·subst h1
   rw[zER]
   have c0:w.cell? ⟨b,o,none⟩=some (.string (L 0)):=hC 0 (by omega)
   clear ih hC U hG
   go_enter Tryz.func171,Tryz.ntmps171
   go_wp2
   go_ret
   exact⟨rfl,Below.refl _ _⟩
  ·have h2:2≤n:=by omega
   rw[zES _ n L h2]
   have e1:=zHX n h2
   have e2:=zFa n
   have HH:Hid _:=zGR b o n u w h2 hn hc
   have H1:Hid _:=fun W=>ih (hf n) e1 L b o u W (by omega) hc
   have H2:Hid _:=fun W=>ih (n-hf n) (by omega) (fun j=>L (hf n+j)) b (o+hf n) (u-hf n) W (by omega) (by omega)
   have a7:=zAe (ofT kt) 35184372088832 (zBm kt) (hf n) L (fun i hi=>U i (by omega))
   have a8:=zAe (ofT kt) 35184372088832 (zBm kt) (n-hf n) (fun j=>L (hf n+j)) (fun i hi=>U _ (by omega))
   have HL:Hid _:=U
   have HC:Hid (Co w b o n (tI L)):=hC
   have HG:Hid _:=hG
   have hm:=zNn
   obtain⟨A,hA⟩:∃A,zAj (ofT kt) (hf n) L=A:=⟨_,rfl⟩
   obtain⟨B,a4⟩:∃B,zAj (ofT kt) (n-hf n) (fun j=>L (hf n+j))=B:=⟨_,rfl⟩
   rw[hA]at a7 H1 ⊢
   rw[a4]at a8 H2 ⊢
   obtain⟨m,a9⟩:∃m,hf n=m:=⟨_,rfl⟩
   rw[a9]at e1 e2 HH H1 H2
   clear ih hC U hG hA a4 a9
   go_enter Tryz.func171,Tryz.ntmps171
   go_wp2_with fail
   refine Calls.mono HH.out ?_
   rintro e w1 ⟨rfl,q,hq⟩
   have aA:w1.heap.size=w.heap.size:=by rw[hq];rfl
   have X:Below w.heap.size w w1:=by rw[hq];exact below_drewN (Below.refl _ _) q
   clear hq
   have J:Hid _:=X
   have Q:Hid _:=aA
   clear X aA
   go_wp2_with fail
   refine Calls.mono (H1.out _ (HG.out.below J.out) (by rw[Q.out];exact hb) (fun i hi=>HL.out i (by omega)) ((Co.lo HC.out (by omega)).below J.out hb)) ?_
   rintro e w2 ⟨rfl,R⟩
   have aI:w1.heap.size≤w2.heap.size:=R.size
   have F:Below w.heap.size w w2:=J.out.trans (by rw[←Q.out];exact R)
   have D:Hid _:=F
   have aG:b<w2.heap.size:=by have:=Q.out;omega
   clear R aI F
   go_wp2_with fail
   refine Calls.mono (H2.out _ (HG.out.below D.out) aG (fun i hi=>HL.out _ (by omega)) ((Co.hi HC.out (by omega)).below D.out hb)) ?_
   rintro e w3 ⟨rfl,a1⟩
   have G:Below w.heap.size w w3:=D.out.trans (a1.mono D.out.size)
   have N:Hid _:=G
   clear a1 G
   go_wp2_with fail
   refine (zJf kt A B _ a7 a8 (HG.out.below N.out)).mono ?_
   rintro e w4 ⟨rfl,a2⟩
   have Z:Below w.heap.size w w4:=N.out.trans (a2.mono N.out.size)
   clear a2
   go_wp2
   go_ret
   exact⟨rfl,Z⟩
theorem zKl:(Tryz.prog.info? 264).map (fun i=>(i.zero,i.size,i.bytes))=some (some (.string ⟨#[]⟩),1,16):=by kernel_rfl
def Ls (w:World)(v:Value)(n:Nat)(L:Nat→ByteArray):Prop:=(v=.slice none 0 0∧n=0)∨∃b cap,v=.slice (some ⟨b,0,none⟩) n cap∧b<w.heap.size∧Cl w b n (tI L)
set_option maxHeartbeats 400000 in
theorem zEt (L:Nat→ByteArray)(b n D:Nat)(w:World)(R:n≤4398046511104)(F:b<w.heap.size)(G:Cl w b n (tI L)):
 Calls Tryz.prog 170 #[.slice (some ⟨b,0,none⟩) n D] w fun e w'=>e=.returned (.slice (some ⟨w.heap.size,0,none⟩) n n)∧Rw w' w.heap.size n 264 (tI L)∧Below w.heap.size w w':=by
 have J:Hid _:=G
 clear G
 have Q:=run_make_row' (P:=Tryz.prog) 265 264 (.string ⟨#[]⟩) 16 Tryz.underlying265 zKl rfl .i64 .i64 n (by omega) (by omega)
 go_enter Tryz.func170,Tryz.ntmps170
 go_wp2
 go_loopw [11] (fun i wr=>∃k:Nat,k≤n∧i=.int .i64 k∧Below w.heap.size w wr∧Rw wr w.heap.size n 264 (zL k (tI L) (.string ⟨#[]⟩))) (fun i _=>n-(intOf i).toNat)
 case atStart=>exact⟨0,by omega,rfl,(Below.refl _ _).alloc (Nat.le_refl _) _,(Rw.made w n 264 (.string ⟨#[]⟩)).to (fun j _=>(zo _ _ j).symm)⟩
 case round=>
  obtain⟨k,hk,rfl,hb,A⟩:=hrel
  by_cases u:k<n
  ·have c1:=A.cell k u
   have c2:=A.free k
   have c3:wr.cell? ⟨b,k,none⟩=some (.string (L k)):=Cl.below J.out hb F k u
   go_wp2
   go_roundw
   case rel=>exact⟨k+1,by omega,by go_num,hb.setCell (Nat.le_refl _) _,(A.put k _).to (fun j _=>by rw[←zN];rfl)⟩
   case measure=>simp[intOf];omega
  ·have e:k=n:=by omega
   subst e
   go_wp2
   go_ret
   exact⟨rfl,A.to (fun j N=>by simp[zL,N]),hb⟩
set_option maxHeartbeats 400000 in
theorem zGX (w:World):
 Calls Tryz.prog 170 #[.slice none 0 0] w fun e w'=>e=.returned (.slice (some ⟨w.heap.size,0,none⟩) 0 0)∧Rw w' w.heap.size 0 264 (tI fun _=>⟨#[]⟩)∧Below w.heap.size w w':=by
 have j:∀w:World,(Instr.makeSlice 265 (.int .i64 0) (.int .i64 0)).run Tryz.prog w=.ok (.slice (some ⟨w.heap.size,0,none⟩) 0 0) (w.alloc (.cells (madeCells #[.string ⟨#[]⟩] 0) 264)):=run_make_row' (P:=Tryz.prog) 265 264 (.string ⟨#[]⟩) 16 Tryz.underlying265 zKl rfl .i64 .i64 0 (by omega) (by omega)
 go_enter Tryz.func170,Tryz.ntmps170
 go_wp2
 refine wp_loop_rounds 1 ?_
 rw[rounds_succ]
 go_wp2
 go_ret
 exact⟨rfl,Rw.made w 0 264 (.string ⟨#[]⟩),(Below.refl _ _).alloc (Nat.le_refl _) _⟩
theorem zGW (L:Nat→ByteArray)(n:Nat)(v:Value)(w:World)(D:n≤4398046511104)(h:Ls w v n L):
 Calls Tryz.prog 170 #[v] w fun e w'=>e=.returned (.slice (some ⟨w.heap.size,0,none⟩) n n)∧Rw w' w.heap.size n 264 (tI L)∧Below w.heap.size w w':=by
 rcases h with ⟨rfl,rfl⟩|⟨b,u,rfl,hb,A⟩
 ·exact (zGX w).mono fun e w' h=>⟨h.1,h.2.1.to (fun j F=>by omega),h.2.2⟩
 ·exact zEt L b n u w D hb A
set_option maxHeartbeats 400000 in
theorem zJ0 (kt:Nat→Int)(L:Nat→ByteArray)(n:Nat)(v:Value)(w:World)(Z:n≤4398046511104)(Q:Gd kt w)(J:∀i,i<n→(L i).size≤35184372088832)(h:Ls w v n L):
 Calls Tryz.prog 138 #[v] w fun e w'=>e=.returned (.string (zAj (ofT kt) n L))∧Below w.heap.size w w':=by
 have H:Hid _:=zGW L n v w Z h
 have W:Hid _:=J
 have U:Hid _:=Q
 have hT:=zAe (ofT kt) 35184372088832 (zBm kt) n L J
 clear h J Q
 go_enter Tryz.func138,Tryz.ntmps138
 go_wp2_with fail
 refine Calls.mono H.out ?_
 rintro e R ⟨rfl,G,A⟩
 have N:Hid (Rw R w.heap.size n 264 (tI L)):=G
 have j:Hid _:=A
 clear G A
 go_wp2_with fail
 refine (zKJ kt n L w.heap.size 0 n R (Nat.le_refl _) (by omega) (U.out.below j.out) N.out.lt W.out (Rw.cl N.out).co).mono ?_
 rintro e w2 ⟨rfl,D⟩
 have u:Hid (Below w.heap.size w w2):=j.out.trans (D.mono j.out.size)
 clear D
 go_wp2_with fail
 refine (zC1 _ _ (by omega)).mono ?_
 rintro e w3 ⟨rfl,F⟩
 have X:Below w.heap.size w w3:=u.out.trans (F.mono u.out.size)
 clear F
 go_wp2
 go_ret
 exact⟨rfl,X⟩
set_option maxHeartbeats 2000000
def Ins (w:World)(a:Option Addr)(n:Nat)(L:Nat→ByteArray):Prop:=∀i,i<n→∃b,a=some ⟨b,0,none⟩∧b<w.heap.size∧w.cell? ⟨b,i,none⟩=some (.string (L i))
def za (D:ByteArray→ByteArray)(s:ByteArray):ByteArray:=D (⟨#[0]⟩++s)
theorem zFi (kt:Nat→Int)(s:ByteArray)(w:World)(hs:s.size≤1000000)(u:Gd kt w):
 Calls Tryz.prog 179 #[.string s] w fun e w'=>e=.returned (.string (za (ofT kt) s))∧Below w.heap.size w w':=by
 have j:((⟨#[0]⟩:ByteArray)++s).size≤140737488351232:=by
  rw[ByteArray.size_append]
  have:(⟨#[0]⟩:ByteArray).size=1:=rfl
  omega
 have H:Hid _:=zCP kt _ w j u.tab u.one
 clear u j
 go_enter Tryz.func179,Tryz.ntmps179
 go_wp2_with fail
 refine Calls.mono H.out ?_
 rintro e D ⟨rfl,A⟩
 go_wp2
 go_ret
 exact⟨rfl,A⟩
theorem zBl (kt:Nat→Int)(L:Nat→ByteArray)(a:Option Addr)(n J:Nat)(w:World)(hn:n≤1000000)(hL:∀i,i<n→(L i).size≤1000000)(hG:Gd kt w)(hI:Ins w a n L):
 Calls Tryz.prog 163 #[.slice a n J] w fun e w'=>e=.returned (.slice (some ⟨w.heap.size,0,none⟩) n n)∧Rw w' w.heap.size n 9 (tX fun i=>za (ofT kt) (L i))∧Below w.heap.size w w':=by
 have HI:Hid _:=hI
 have HL:Hid _:=hL
 have HG:Hid _:=hG
 clear hI hL hG
 have aC:=run_make_row' (P:=Tryz.prog) 22 9 (.string ⟨#[]⟩) 16 Tryz.underlying22 zAl rfl .i64 .i64 n (by omega) (by omega)
 go_enter Tryz.func163,Tryz.ntmps163
 go_wp2
 go_loopw [11] (fun X wr=>∃i:Nat,i≤n∧X=.int .i64 i∧Below w.heap.size w wr∧Rw wr w.heap.size n 9 (zL i (tX fun i=>za (ofT kt) (L i)) (.string ⟨#[]⟩))) (fun X _=>n-(intOf X).toNat)
 case atStart=>exact⟨0,by omega,rfl,(Below.refl _ _).alloc (Nat.le_refl _) _,(Rw.made w n 9 (.string ⟨#[]⟩)).to (fun j _=>(zo _ _ j).symm)⟩
 case round=>
  obtain⟨i,hi,rfl,hb,R⟩:=hrel
  by_cases D:i<n
  ·obtain⟨bb,ha,U,hc⟩:=HI.out i D
   subst ha
   have HB:Hid (Below w.heap.size w wr):=hb
   have Z:Hid (Rw wr w.heap.size n 9 (zL i (tX fun i=>za (ofT kt) (L i)) (.string ⟨#[]⟩))):=R
   have c1:wr.cell? ⟨bb,i,none⟩=some (.string (L i)):=(hb.cell (p:=⟨bb,i,none⟩) U).trans hc
   have F:Gd kt wr:=HG.out.below hb
   have Q:=HL.out i D
   have H:Hid _:=zFi kt (L i) wr Q F
   clear hb R F
   go_wp2_with fail
   refine Calls.mono H.out ?_
   rintro e w1 ⟨rfl,A⟩
   have u:Rw w1 w.heap.size n 9 (zL i (tX fun i=>za (ofT kt) (L i)) (.string ⟨#[]⟩)):=Z.out.below A Z.out.lt
   have N:Below w.heap.size w w1:=HB.out.trans (A.mono HB.out.size)
   have c2:=u.cell i D
   have c3:=u.free i
   clear H c1 A
   obtain⟨t,W⟩:∃t,za (ofT kt) (L i)=t:=⟨_,rfl⟩
   have G:Hid (za (ofT kt) (L i)=t):=W
   rw[W]
   clear W
   go_wp2
   go_roundw
   case rel=>exact⟨i+1,by omega,by go_num,N.setCell (Nat.le_refl _) _,(u.put i _).to (fun j _=>by rw[←G.out,←zN];rfl)⟩
   case measure=>simp[intOf];omega
  ·have e:i=n:=by omega
   subst e
   go_wp2
   go_ret
   exact⟨rfl,R.to (fun j hj=>by simp[zL,hj]),hb⟩
def zAX (D:ByteArray→ByteArray)(l:ByteArray)(n:Nat)(L:Nat→ByteArray):ByteArray:=D (⟨#[2]⟩++l++zAj D n L)
theorem zBa (kt:Nat→Int)(l:ByteArray)(L:Nat→ByteArray)(b n j:Nat)(w:World)(hl:l.size≤1000000000)(hn:n≤1000000)(N:∀i,i<n→(L i).size≤32)(J:Gd kt w)(hb:b<w.heap.size)(U:Cl w b n (tI L)):
 Calls Tryz.prog 99 #[.string l,.slice (some ⟨b,0,none⟩) n j] w fun e w'=>e=.returned (.string (zAX (ofT kt) l n L))∧Below w.heap.size w w':=by
 have H:Hid _:=zJ0 kt L n (.slice (some ⟨b,0,none⟩) n j) w (by omega) J (fun i hi=>Nat.le_trans (N i hi) (by omega)) (.inr ⟨b,j,rfl,hb,U⟩)
 have X:Hid _:=J
 have R:Hid ((zAj (ofT kt) n L).size≤35184372088832):=zAe (ofT kt) 35184372088832 (zBm kt) n L (fun i hi=>Nat.le_trans (N i hi) (by omega))
 clear U J N
 go_enter Tryz.func99,Tryz.ntmps99
 go_wp2_with fail
 refine Calls.mono H.out ?_
 rintro e W ⟨rfl,A⟩
 have u:=X.out.below A
 have Q:Hid _:=zCP kt (⟨#[2]⟩++l++zAj (ofT kt) n L) W (by
  have:=R.out
  rw[ByteArray.size_append,ByteArray.size_append]
  have:(⟨#[2]⟩:ByteArray).size=1:=rfl
  omega) u.tab u.one
 have D:Hid (Below w.heap.size w W):=A
 have q1:((⟨#[2]⟩:ByteArray)++l).size≤1000000001:=by
  rw[ByteArray.size_append]
  have:(⟨#[2]⟩:ByteArray).size=1:=rfl
  omega
 have q2:=R.out
 clear u A H
 go_wp2_with fail
 refine Calls.mono Q.out ?_
 rintro e Z ⟨rfl,F⟩
 have G:Hid (Below w.heap.size w Z):=D.out.trans (F.mono D.out.size)
 clear F Q
 go_wp2
 go_ret
 exact⟨rfl,G.out⟩
def whl (S:Nat→ByteArray)(k m c:Nat):List Value:=tV S k++tV (vl (fun i=>i) (fun i=>k+i) k c S) m
theorem zHz (z len:Nat)(A:0<z):nst z len≤len:=by
 unfold nst
 rcases Nat.eq_zero_or_pos len with h|h
 ·subst h;rw[Nat.div_eq_of_lt (by omega)];omega
 ·apply Nat.div_le_of_le_mul
  obtain⟨u,rfl⟩:∃u,z=u+1:=⟨z-1,by omega⟩
  obtain⟨j,rfl⟩:∃j,len=j+1:=⟨len-1,by omega⟩
  rw[Nat.succ_mul,Nat.mul_succ]
  omega
def dat (t:ByteArray)(z C i:Nat):Nat→ByteArray:=fun j=>pc (pc t z i) C j
def zM0 (t:ByteArray)(z K M C:Nat):Nat→List Value
 |0=>[]
 |i+1=>zM0 t z K M C i++whl (dat t z C i) K M C
theorem zMv (S:Nat→ByteArray)(k m c:Nat):(whl S k m c).length=k+m:=by simp[whl,tV]
def jL (F:Nat→ByteArray)(n:Nat):List UInt8:=((List.range n).map fun i=>(F i).data.toList).flatten
def jT (F:Nat→ByteArray)(n:Nat):ByteArray:=⟨(jL F n).toArray⟩
theorem zHi (F:Nat→ByteArray)(c:Nat):∀n,(∀i,i<n→(F i).size≤c)→(jL F n).length≤n*c
 |0,_=>by simp[jL]
 |n+1,h=>by
  have u:=zHi F c n (fun i hi=>h i (by omega))
  have j:=h n (by omega)
  have e:jL F (n+1)=jL F n++(F n).data.toList:=by simp[jL,List.range_succ]
  rw[e,List.length_append,dl,Nat.succ_mul]
  omega
theorem zCI (F:Nat→ByteArray)(c n:Nat)(h:∀i,i<n→(F i).size≤c):(jT F n).size≤n*c:=by
 have:=zHi F c n h
 show (jL F n).toArray.size≤n*c
 simpa using this
theorem zHl:∀j:List (List UInt8),Lib.join j []=j.flatten
 |[]=>rfl
 |x::r=>by rw[Lib.join_cons];simp[Lib.joinTail]
theorem zAs (F:Nat→ByteArray)(b o n u c:Nat)(w:World)(hb:b<w.heap.size)(A:n≤u)(Z:n≤1000000)(X:c≤1000000)(W:∀i,i<n→(F i).size≤c)(U:∀i,i<n→w.cell? ⟨b,o+i,none⟩=some (.string (F i))):
 Calls Tryz.prog 165 #[.slice (some ⟨b,o,none⟩) n u,.string ⟨#[]⟩] w fun e w'=>e=.returned (.string (jT F n))∧Below w.heap.size w w':=by
 rcases Nat.eq_zero_or_pos n with J|J
 ·subst J
  exact (zD2 _ u ⟨#[]⟩ w).mono fun e w' ⟨N,Q⟩=>⟨N,by rw[Q];exact Below.refl _ _⟩
 ·have hl:((List.range n).map F).length=n:=by simp
  have R:Lib.join (((List.range n).map F).map (·.data.toList)) (⟨#[]⟩:ByteArray).data.toList=jL F n:=by
   show Lib.join _ []=_
   rw[zHl,List.map_map]
   rfl
  have h:=zHm b o u ((List.range n).map F) ⟨#[]⟩ w (fun j x G=>by
   have D:j<n:=by have:=(List.getElem?_eq_some_iff.1 G).1;rwa [hl]at this
   simp[D]at G
   rw[←G];exact U j D) hb (by rw[hl];omega) (by rw[hl];exact A) (by
   rw[R]
   have N:=zHi F c n W
   have Q:n*c≤1000000*1000000:=Nat.mul_le_mul Z X
   omega)
  rw[hl,R]at h
  exact h
def zMq:ByteArray:=⟨#[86,79,76,49]⟩
def zA2 (root l:ByteArray)(n:Nat)(L:Nat→ByteArray)(v:Nat):ByteArray:=zMq++root++l++zm v++jT L n
def zIy (D:ByteArray→ByteArray)(root l:ByteArray)(n:Nat)(L B:Nat→ByteArray)(V v:Nat):ByteArray:=
 zA2 root l n L v++D (⟨#[3]⟩++zA2 root l n L v)++jT (fun i=>B (v*n/V+i)) ((v+1)*n/V-v*n/V)
end Go.Proofs.YtlopecgkiikdhaaGreatDoor
