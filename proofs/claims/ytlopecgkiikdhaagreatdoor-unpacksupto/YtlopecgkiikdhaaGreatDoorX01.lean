namespace Go.Proofs.YtlopecgkiikdhaaGreatDoor
structure Fld (F:Type) where
 add:F→F→F
 mul:F→F→F
 zero:F
 one:F
 inv:F→F
 add_comm:∀a b,add a b=add b a
 add_assoc:∀a b c,add (add a b) c=add a (add b c)
 zero_add:∀a,add zero a=a
 add_self:∀a,add a a=zero
 mul_comm:∀a b,mul a b=mul b a
 mul_assoc:∀a b c,mul (mul a b) c=mul a (mul b c)
 one_mul:∀a,mul one a=a
 add_mul:∀a b c,mul (add a b) c=add (mul a c) (mul b c)
 mul_inv:∀a,a≠zero→mul a (inv a)=one
 one_ne:one≠zero
namespace Fld
variable {F:Type} (K:Fld F)
theorem add_zero (a:F):K.add a K.zero=a:=by rw[K.add_comm,K.zero_add]
theorem mul_one (a:F):K.mul a K.one=a:=by rw[K.mul_comm,K.one_mul]
theorem mul_add (a b c:F):K.mul a (K.add b c)=K.add (K.mul a b) (K.mul a c):=by
 rw[K.mul_comm,K.add_mul,K.mul_comm b a,K.mul_comm c a]
theorem zero_mul (a:F):K.mul K.zero a=K.zero:=by
 have h:=K.add_mul a a a
 rw[K.add_self,K.add_self]at h
 exact h
theorem mul_zero (a:F):K.mul a K.zero=K.zero:=by rw[K.mul_comm,K.zero_mul]
theorem add_cancel (a b:F):K.add a (K.add a b)=b:=by rw[←K.add_assoc,K.add_self,K.zero_add]
theorem eq_of_add (a b:F)(h:K.add a b=K.zero):a=b:=by
 have e:=K.add_cancel a b
 rw[h,K.add_zero]at e
 exact e
theorem add_swap (a b c d:F):K.add (K.add a b) (K.add c d)=K.add (K.add a c) (K.add b d):=by
 rw[K.add_assoc,K.add_assoc,←K.add_assoc b c d,K.add_comm b c,K.add_assoc c b d]
theorem mul_swap (a b c:F):K.mul a (K.mul b c)=K.mul b (K.mul a c):=by
 rw[←K.mul_assoc,K.mul_comm a b,K.mul_assoc]
theorem no_zero (a b:F)(j:a≠K.zero)(h:K.mul a b=K.zero):b=K.zero:=by
 have e:K.mul (K.inv a) (K.mul a b)=b:=by rw[←K.mul_assoc,K.mul_comm (K.inv a) a,K.mul_inv a j,K.one_mul]
 rw[h,K.mul_zero]at e
 exact e.symm
theorem mul_ne (a b:F)(j:a≠K.zero)(hb:b≠K.zero):K.mul a b≠K.zero:=fun h=>hb (K.no_zero a b j h)
def Poly:Nat→(F→F)→Prop
 |0,f=>∀x,f x=K.zero
 |n+1,f=>∀a,∃g,Poly n g∧∀x,f x=K.add (f a) (K.mul (K.add x a) (g x))
theorem Poly.congr:∀{n:Nat} {f h:F→F},K.Poly n f→(∀x,h x=f x)→K.Poly n h
 |0,_,_,hf,e=>fun x=>(e x).trans (hf x)
 |_+1,_,_,hf,e=>fun a=>by
  obtain⟨g,j,u⟩:=hf a
  exact⟨g,j,fun x=>by rw[e x,e a];exact u x⟩
theorem Poly.zero:∀n:Nat,K.Poly n (fun _=>K.zero)
 |0=>fun _=>rfl
 |n+1=>fun _=>⟨fun _=>K.zero,Poly.zero n,fun _=>by rw[K.mul_zero,K.add_zero]⟩
theorem Poly.up:∀{n:Nat} {f:F→F},K.Poly n f→K.Poly (n+1) f
 |0,f,hf=>fun a=>⟨fun _=>K.zero,Poly.zero K 0,fun x=>by rw[K.mul_zero,K.add_zero,hf x,hf a]⟩
 |n+1,f,hf=>fun a=>by
  obtain⟨g,j,u⟩:=hf a
  exact⟨g,Poly.up j,u⟩
theorem Poly.const (c:F):K.Poly 1 (fun _=>c):=fun _=>⟨fun _=>K.zero,Poly.zero K 0,fun _=>by rw[K.mul_zero,K.add_zero]⟩
theorem Poly.add:∀{n:Nat} {f h:F→F},K.Poly n f→K.Poly n h→K.Poly n (fun x=>K.add (f x) (h x))
 |0,_,_,hf,hh=>fun x=>by show K.add _ _=_;rw[hf x,hh x,K.add_self]
 |n+1,f,h,hf,hh=>fun a=>by
  obtain⟨g1,A,j⟩:=hf a
  obtain⟨g2,D,u⟩:=hh a
  refine⟨fun x=>K.add (g1 x) (g2 x),Poly.add A D,fun x=> ?_⟩
  show K.add (f x) (h x)=K.add (K.add (f a) (h a)) (K.mul (K.add x a) (K.add (g1 x) (g2 x)))
  rw[j x,u x,K.mul_add,K.add_swap]
theorem Poly.smul (c:F):∀{n:Nat} {f:F→F},K.Poly n f→K.Poly n (fun x=>K.mul c (f x))
 |0,_,hf=>fun x=>by show K.mul c _=_;rw[hf x,K.mul_zero]
 |n+1,f,hf=>fun a=>by
  obtain⟨g,p,e⟩:=hf a
  refine⟨fun x=>K.mul c (g x),Poly.smul c p,fun x=> ?_⟩
  show K.mul c (f x)=K.add (K.mul c (f a)) (K.mul (K.add x a) (K.mul c (g x)))
  rw[e x,K.mul_add,K.mul_swap]
theorem Poly.lin (c:F):∀{n:Nat} {f:F→F},K.Poly n f→K.Poly (n+1) (fun x=>K.mul (f x) (K.add x c))
 |0,f,hf=>Poly.congr K (Poly.zero K 1) (fun x=>by show K.mul (f x) _=_;rw[hf x,K.zero_mul])
 |n+1,f,hf=>fun a=>by
  obtain⟨g,p,e⟩:=hf a
  refine⟨fun x=>K.add (f x) (K.mul (K.add a c) (g x)),Poly.add K hf (Poly.up K (Poly.smul K _ p)),fun x=> ?_⟩
  show K.mul (f x) (K.add x c)=K.add (K.mul (f a) (K.add a c)) (K.mul (K.add x a) (K.add (f x) (K.mul (K.add a c) (g x))))
  have s:K.add x c=K.add (K.add x a) (K.add a c):=by rw[K.add_assoc,K.add_cancel]
  have t:K.mul (f x) (K.add a c)=K.add (K.mul (f a) (K.add a c)) (K.mul (K.add x a) (K.mul (K.add a c) (g x))):=by
   rw[e x,K.add_mul,K.mul_assoc,K.mul_comm (g x)]
  rw[s,K.mul_add (f x) (K.add x a) (K.add a c),t,K.mul_add (K.add x a) (f x) _,K.mul_comm (f x) (K.add x a)]
  rw[←K.add_assoc,K.add_comm (K.mul (K.add x a) (f x)),K.add_assoc]
def sum (a:F):List F→F
 |[]=>a
 |x::l=>sum (K.add a x) l
end Fld
end Go.Proofs.YtlopecgkiikdhaaGreatDoor
