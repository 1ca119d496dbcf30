import Derived.Test.YtlopecgkiikdhaaGreatDoorX01
namespace Go.Proofs.YtlopecgkiikdhaaGreatDoor
namespace Fld
variable {F:Type} (K:Fld F)
def ahd (f:Nat→F):Nat→F
 |0=>K.one
 |k+1=>K.mul (ahd f k) (f k)
def bhd (f:Nat→F)(n:Nat):Nat→F
 |0=>K.one
 |c+1=>K.mul (bhd f n c) (f (n-1-c))
def oth (f:Nat→F)(n j:Nat):F:=K.mul (K.ahd f j) (K.bhd f n (n-1-j))
def hgt (p:Nat→F)(i:Nat):Nat→F
 |0=>K.one
 |k+1=>if k=i then hgt p i k else K.mul (hgt p i k) (K.add (p i) (p k))
def scl (p:Nat→F)(n i:Nat):F:=K.mul K.one (K.inv (K.hgt p i n))
def wt (p:Nat→F)(n:Nat)(x:F)(j:Nat):F:=K.mul (K.oth (fun l=>K.add x (p l)) n j) (K.scl p n j)
def sm (u y:Nat→F):Nat→F
 |0=>K.zero
 |k+1=>K.add (sm u y k) (K.mul (u k) (y k))
theorem zFK (p:Nat→F):∀j,K.Poly (j+1) (fun x=>K.ahd (fun l=>K.add x (p l)) j)
 |0=>Poly.const K K.one
 |j+1=>Poly.lin K (p j) (zFK p j)
theorem zEF (p:Nat→F)(n j:Nat):∀c,K.Poly (j+1+c) (fun x=>K.mul (K.ahd (fun l=>K.add x (p l)) j) (K.bhd (fun l=>K.add x (p l)) n c))
 |0=>Poly.congr K (zFK K p j) (fun x=>by show K.mul _ K.one=_;rw[K.mul_one])
 |c+1=>Poly.congr K (Poly.lin K (p (n-1-c)) (zEF p n j c)) (fun x=>by show K.mul _ (K.mul _ _)=_;rw[←K.mul_assoc])
theorem zJr (p:Nat→F)(n j:Nat)(u:j<n):K.Poly n (fun x=>K.oth (fun l=>K.add x (p l)) n j):=by
 have:=zEF K p n j (n-1-j)
 rwa [show j+1+(n-1-j)=n by omega]at this
theorem zMy (p:Nat→F)(n j:Nat)(u:j<n):K.Poly n (fun x=>K.wt p n x j):=
 Poly.congr K (Poly.smul K (K.scl p n j) (zJr K p n j u)) (fun x=>by show K.mul _ _=_;rw[K.mul_comm])
theorem zMg (p y:Nat→F)(n:Nat):∀k,k≤n→K.Poly n (fun x=>K.sm (K.wt p n x) y k)
 |0,_=>Poly.zero K n
 |k+1,h=>Poly.add K (zMg p y n k (by omega)) (Poly.congr K (Poly.smul K (y k) (zMy K p n k (by omega))) (fun x=>by show K.mul _ _=_;rw[K.mul_comm]))
theorem zFL (f:Nat→F)(m:Nat)(u:f m=K.zero):∀j,m<j→K.ahd f j=K.zero
 |j+1,h=>by
  rw[ahd]
  by_cases e:m=j
  ·rw[←e,u,K.mul_zero]
  ·rw[zFL f m u j (by omega),K.zero_mul]
theorem zFM (f:Nat→F)(n m:Nat)(j:m<n)(u:f m=K.zero):∀c,n-1-m<c→K.bhd f n c=K.zero
 |c+1,h=>by
  rw[bhd]
  by_cases e:m=n-1-c
  ·rw[←e,u,K.mul_zero]
  ·rw[zFM f n m j u c (by omega),K.zero_mul]
theorem zJs (f:Nat→F)(n j m:Nat)(G:j<n)(u:m<n)(D:m≠j)(A:f m=K.zero):K.oth f n j=K.zero:=by
 unfold oth
 by_cases h:m<j
 ·rw[zFL K f m A j h,K.zero_mul]
 ·rw[zFM K f n m u A (n-1-j) (by omega),K.mul_zero]
theorem zB3 (d:Nat→F)(n:Nat):∀c,c≤n→K.bhd d (n+1) (c+1)=K.mul (d n) (K.bhd d n c)
 |0,_=>by show K.mul K.one (d (n+1-1-0))=K.mul (d n) K.one;rw[K.one_mul,K.mul_one];rfl
 |c+1,h=>by
  have j:=zB3 d n c (by omega)
  show K.mul (K.bhd d (n+1) (c+1)) (d (n+1-1-(c+1)))=K.mul (d n) (K.mul (K.bhd d n c) (d (n-1-c)))
  rw[j,K.mul_assoc,show n+1-1-(c+1)=n-1-c by omega]
theorem zKj (p:Nat→F)(i:Nat):∀k,k≤i→K.hgt p i k=K.ahd (fun l=>K.add (p i) (p l)) k
 |0,_=>rfl
 |k+1,h=>by rw[hgt,if_neg (by omega),zKj p i k (by omega)];rfl
theorem zKi (p:Nat→F)(i:Nat):∀t,K.hgt p i (i+1+t)=K.mul (K.ahd (fun l=>K.add (p i) (p l)) i) (K.bhd (fun l=>K.add (p i) (p l)) (i+1+t) t)
 |0=>by
  show K.hgt p i (i+1)=K.mul _ K.one
  rw[hgt,if_pos rfl,zKj K p i i (by omega),K.mul_one]
 |t+1=>by
  rw[show i+1+(t+1)=(i+1+t)+1 by omega,hgt,if_neg (by omega),zKi p i t,zB3 K _ (i+1+t) t (by omega)]
  rw[K.mul_assoc,K.mul_comm (K.bhd _ _ t)]
theorem zLk (p:Nat→F)(n i:Nat)(hi:i<n):K.hgt p i n=K.oth (fun l=>K.add (p i) (p l)) n i:=by
 have:=zKi K p i (n-1-i)
 rwa [show i+1+(n-1-i)=n by omega]at this
theorem zHZ (p:Nat→F)(i:Nat):∀n,(∀k,k<n→k≠i→p i≠p k)→K.hgt p i n≠K.zero
 |0,_=>K.one_ne
 |n+1,h=>by
  rw[hgt]
  by_cases e:n=i
  ·rw[if_pos e];exact zHZ p i n (fun k hk=>h k (by omega))
  ·rw[if_neg e]
   exact K.mul_ne _ _ (zHZ p i n (fun k hk=>h k (by omega))) (fun z=>h n (by omega) e (K.eq_of_add _ _ z))
theorem zPb (p:Nat→F)(n:Nat)(hd:∀i j,i<n→j<n→i≠j→p i≠p j)(m j:Nat)(u:m<n)(D:j<n):K.wt p n (p m) j=if m=j then K.one else K.zero:=by
 unfold wt
 by_cases e:m=j
 ·subst e
  rw[if_pos rfl,←zLk K p n m u]
  unfold scl
  rw[K.one_mul]
  exact K.mul_inv _ (zHZ K p m n (fun k hk A=>hd m k u hk (fun e=>A e.symm)))
 ·rw[if_neg e,zJs K _ n j m D u e (K.add_self (p m)),K.zero_mul]
theorem sm_at (p y:Nat→F)(n:Nat)(hd:∀i j,i<n→j<n→i≠j→p i≠p j)(m:Nat)(A:m<n):∀k,k≤n→K.sm (K.wt p n (p m)) y k=if m<k then y m else K.zero
 |0,_=>rfl
 |k+1,h=>by
  rw[sm,sm_at p y n hd m A k (by omega),zPb K p n hd m k A (by omega)]
  by_cases e:m=k
  ·subst e
   rw[if_neg (by omega),if_pos rfl,if_pos (by omega),K.one_mul,K.zero_add]
  ·rw[if_neg e,K.zero_mul,K.add_zero]
   by_cases u:m<k
   ·rw[if_pos u,if_pos (by omega)]
   ·rw[if_neg u,if_neg (by omega)]
end Fld
end Go.Proofs.YtlopecgkiikdhaaGreatDoor
