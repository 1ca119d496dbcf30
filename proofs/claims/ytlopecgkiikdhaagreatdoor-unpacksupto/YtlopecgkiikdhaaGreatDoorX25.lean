import Derived.Test.YtlopecgkiikdhaaGreatDoorX24
namespace Go.Proofs.YtlopecgkiikdhaaGreatDoor
open Go.RowKit
set_option maxRecDepth 100000
set_option maxHeartbeats 4000000
def TT.n (T:TT):Nat:=T.L.K+T.L.M
def stS (T:TT)(bl:Nat→ByteArray)(s i:Nat):ByteArray:=bl (s*T.n+i)
def stH (kt:Nat→Int)(T:TT)(bl:Nat→ByteArray)(s i:Nat):Bool:=zAG kt T.L.C T.lv (s*T.n+i) (bl (s*T.n+i))
def stF (kt:Nat→Int)(T:TT)(bl:Nat→ByteArray)(s:Nat):Nat:=zEl kt T.L.K T.L.M T.L.C T.lv s (zM T.L.es) (stS T bl s) (stH kt T bl s)
def stB (kt:Nat→Int)(T:TT)(bl:Nat→ByteArray)(s:Nat):List Nat:=zBD (stH kt T bl s) (s*T.n) T.n
def stM (kt:Nat→Int)(T:TT)(bl:Nat→ByteArray)(s:Nat):Nat→ByteArray:=mdT (stS T bl s) (stH kt T bl s) T.L.K T.L.M T.L.C
def blD (kt:Nat→Int)(T:TT)(bl:Nat→ByteArray)(dn:Nat→Bool)(x:Nat):ByteArray:=if dn (x/T.n)=true∧stF kt T bl (x/T.n)=0 then stM kt T bl (x/T.n) (x%T.n) else bl x
theorem zJE (kt:Nat→Int)(T:TT)(bl:Nat→ByteArray):blD kt T bl (fun _=>false)=bl:=by
 funext x;unfold blD;rw[if_neg (by simp)]
theorem zBi {s n i:Nat}(hi:i<n):(s*n+i)/n=s∧(s*n+i)%n=i:=by
 have j:0<n:=by omega
 constructor
 ·rw[Nat.mul_comm,Nat.mul_add_div j,Nat.div_eq_of_lt hi,Nat.add_zero]
 ·rw[Nat.mul_comm,Nat.mul_add_mod,Nat.mod_eq_of_lt hi]
theorem zM7 {kt:Nat→Int}{T:TT}{bl:Nat→ByteArray}{dn:Nat→Bool}{s i:Nat}(hd:dn s=false)(hi:i<T.n):blD kt T bl dn (s*T.n+i)=bl (s*T.n+i):=by
 unfold blD
 rw[(zBi hi).1,hd,if_neg (by simp)]
theorem zDz {x s n:Nat}(u:0<n)(h:x/n=s):s*n≤x∧x<s*n+n:=by
 subst h
 have j:=Nat.div_add_mod x n
 have A:=Nat.mod_lt x u
 rw[Nat.mul_comm]at j
 omega
theorem zJF {kt:Nat→Int}{T:TT}{bl:Nat→ByteArray}{dn:Nat→Bool}{s:Nat}(J:0<T.n)(hd:dn s=false):blD kt T bl (zAx dn s true)=if stF kt T bl s=0 then laid (blD kt T bl dn) (s*T.n) T.n (stM kt T bl s) else blD kt T bl dn:=by
 funext x
 by_cases j:x/T.n=s
 ·obtain⟨F,G⟩:=zDz J j
  have A:zAx dn s true (x/T.n)=true:=by unfold zAx;rw[if_pos j]
  by_cases hf:stF kt T bl s=0
  ·rw[if_pos hf]
   unfold laid
   rw[if_pos ⟨F,G⟩]
   unfold blD
   rw[A,j,if_pos ⟨rfl,hf⟩]
   congr 1
   have:=(zBi (s:=s) (n:=T.n) (i:=x-s*T.n) (by omega)).2
   rw[show s*T.n+(x-s*T.n)=x by omega]at this
   exact this
  ·rw[if_neg hf]
   unfold blD
   rw[A,j,hd,if_neg (fun h=>hf h.2),if_neg (by simp)]
 ·have A:zAx dn s true (x/T.n)=dn (x/T.n):=by unfold zAx;rw[if_neg j]
  have u:¬(s*T.n≤x∧x<s*T.n+T.n):=fun h=>j (by
   have:=(zBi (s:=s) (n:=T.n) (i:=x-s*T.n) (by omega)).1
   rw[show s*T.n+(x-s*T.n)=x by omega]at this
   exact this)
  have D:blD kt T bl (zAx dn s true) x=blD kt T bl dn x:=by unfold blD;rw[A]
  rw[D]
  split
  ·unfold laid;rw[if_neg u]
  ·rfl
def fiP (dn:Nat→Bool)(zs:Nat→Nat):Nat→Value:=fun s=>if dn s=true then .pointer (some ⟨zs s,0,none⟩) else .pointer none
structure VS (kt:Nat→Int)(B k g p q f:Nat)(T:TT)(un:Value)(ul:List Nat)(rd:Nat→Bool)(bl:Nat→ByteArray)(dn:Nat→Bool)(zs:Nat→Nat)(bd:Nat→Value)(w:World):Prop where
 row:w.heap[k]? =some (.cells (stC (.pointer (some ⟨g,0,none⟩)) un (.slice (some ⟨p,0,none⟩) T.L.V T.L.V) (.slice (some ⟨q,0,none⟩) T.L.cnt T.L.cnt) (.slice (some ⟨f,0,none⟩) T.L.ns T.L.ns)) 114 (0,0))
 hd:Head2 B g T w
 unO:w.ownsRow B 3 1 un ul.length (unV ul)
 rdR:Rw w p T.L.V 4 (boR rd)
 blR:Rw w q T.L.cnt 9 (tX (blD kt T bl dn))
 fiR:Rw w f T.L.ns 212 (fiP dn zs)
 fn:∀s,s<T.L.ns→dn s=true→w.heap[zs s]? =some (.cells (fnC (bd s) (stF kt T bl s)) 216 (0,0))∧w.ownsRow B 3 1 (bd s) (stB kt T bl s).length (unV (stB kt T bl s))
theorem Head2.kept {B g:Nat}{T:TT}{w w':World}(h:Head2 B g T w)(F:∀(j:Nat) (A:Array Value) (t:TypeId),t=157∨t=131→w.heap[j]? =some (.cells A t (0,0))→w'.heap[j]? =some (.cells A t (0,0))):Head2 B g T w':=by
 obtain⟨G,Q,num,first,vB,J,D⟩:=h
 refine⟨G,Q,num,first,vB,F _ _ _ (.inl rfl) J,zD D (fun y N=> ?_)⟩
 obtain⟨cur,u⟩:=zB D y N
 rw[F _ _ _ (.inr rfl) u,u]
theorem zF {w w':World}{base:Nat}{e:TypeId}{size:Nat}{v:Value}{n:Nat}{F:List Value}(h:w.ownsRow base e size v n F)(G:∀(j:Nat) (A:Array Value),v.ownBlock=some j→w.heap[j]? =some (.cells A e (0,0))→w'.heap[j]? =some (.cells A e (0,0))):w'.ownsRow base e size v n F:=zD h (fun y D=>by
 obtain⟨cur,u⟩:=zB h y D
 rw[G _ _ D u,u])
theorem VS.kept {kt:Nat→Int}{B k g p q f:Nat}{T:TT}{un:Value}{ul:List Nat}{rd:Nat→Bool}{bl:Nat→ByteArray}{dn:Nat→Bool}{J:Nat→Nat}{D:Nat→Value}{w w':World}(h:VS kt B k g p q f T un ul rd bl dn J D w)
 (u:∀(j:Nat) (A:Array Value) (t:TypeId),t=114∨t=157∨t=131∨t=4∨t=9∨t=212∨t=216→w.heap[j]? =some (.cells A t (0,0))→w'.heap[j]? =some (.cells A t (0,0))) (G:∀j,(un.ownBlock=some j∨∃s,s<T.L.ns∧dn s=true∧(D s).ownBlock=some j)→w'.heap[j]? =w.heap[j]?):VS kt B k g p q f T un ul rd bl dn J D w' where
 row:=u _ _ _ (by simp) h.row
 hd:=h.hd.kept (fun j A t Q N=>u j A t (by rcases Q with e|e<;>simp[e]) N)
 unO:=zD h.unO (fun y F=>G y (.inl F))
 rdR:=u _ _ _ (by simp) h.rdR
 blR:=u _ _ _ (by simp) h.blR
 fiR:=u _ _ _ (by simp) h.fiR
 fn:=fun s hs hd=>⟨u _ _ _ (by simp) (h.fn s hs hd).1,zD (h.fn s hs hd).2 (fun y F=>G y (.inr ⟨s,hs,hd,F⟩))⟩
theorem VS.below {kt:Nat→Int}{B k g p q f:Nat}{T:TT}{un:Value}{ul:List Nat}{rd:Nat→Bool}{bl:Nat→ByteArray}{dn:Nat→Bool}{D:Nat→Nat}{A:Nat→Value}{w w':World}(h:VS kt B k g p q f T un ul rd bl dn D A w)(hb:Below w.heap.size w w'):VS kt B k g p q f T un ul rd bl dn D A w':=
 h.kept (fun j F t _ u=>(hb.block j (Array.getElem?_eq_some_iff.1 u).1).trans u) (fun j u=>by
  rcases u with e|⟨s,hs,hd,e⟩
  ·exact hb.block j (zG h.unO j e)
  ·exact hb.block j (zG (h.fn s hs hd).2 j e))
theorem VS.hb {kt:Nat→Int}{B k g p q f:Nat}{T:TT}{un:Value}{ul:List Nat}{rd:Nat→Bool}{bl:Nat→ByteArray}{dn:Nat→Bool}{u:Nat→Nat}{j:Nat→Value}{w:World}(h:VS kt B k g p q f T un ul rd bl dn u j w):HB B k g q T.L.cnt T (blD kt T bl dn) w:=
 ⟨cell_of_row _ _ _ _ 114 _ h.row,cell_of_row _ _ _ _ 114 _ h.row,h.hd,h.blR⟩
theorem VS.worked {kt:Nat→Int}{B k g p q f:Nat}{T:TT}{un:Value}{ul:List Nat}{rd:Nat→Bool}{bl:Nat→ByteArray}{dn:Nat→Bool}{zs:Nat→Nat}{bd:Nat→Value}{w G:World}{s z:Nat}{X:Value}(h:VS kt B k g p q f T un ul rd bl dn zs bd w)(hn:0<T.n)(hs:s<T.L.ns)(Z:dn s=false)(hB:B≤w.heap.size)
 (hz:w.heap.size≤z) (a2:G.heap[z]? =some (.cells (fnC X (stF kt T bl s)) 216 (0,0))) (N:G.ownsRow w.heap.size 3 1 X (stB kt T bl s).length (unV (stB kt T bl s))) (hq:Rw G q T.L.cnt 9 (tX (if stF kt T bl s=0 then laid (blD kt T bl dn) (s*T.n) T.n (stM kt T bl s) else blD kt T bl dn))) (hF:Fr (fun j=>j=q) w G):
 VS kt B k g p q f T un ul rd bl (zAx dn s true) (fun t=>if t=s then z else zs t) (fun t=>if t=s then X else bd t) (G.setCell ⟨f,s,none⟩ (.pointer (some ⟨z,0,none⟩))):=by
 have U:w.heap[q]? =_:=h.blR
 have A:w.heap[f]? =_:=h.fiR
 have R:f≠q:=zE A U (by decide)
 have a1:G.heap[f]? =_:=(hF.old f (Array.getElem?_eq_some_iff.1 A).1 R).trans A
 have u:∀(j:Nat) (F:Array Value) (t:TypeId),t≠9→t≠212→w.heap[j]? =some (.cells F t (0,0))→(G.setCell ⟨f,s,none⟩ (.pointer (some ⟨z,0,none⟩))).heap[j]? =some (.cells F t (0,0)):=fun j F t h9 J D=>by
  rw[zC _ _ _ _ _ (zE D A J),hF.old j (Array.getElem?_eq_some_iff.1 D).1 (zE D U h9)]
  exact D
 have a9:=(Array.getElem?_eq_some_iff.1 A).1
 refine⟨u _ _ _ (by decide) (by decide) h.row,h.hd.kept (fun j F t W D=>u j F t (by rcases W with e|e<;>simp[e]) (by rcases W with e|e<;>simp[e]) D),zF h.unO (fun j F _ D=>u j F 3 (by decide) (by decide) D),u _ _ _ (by decide) (by decide) h.rdR,?_,?_,fun t W hd=> ?_⟩
 ·rw[zJF hn Z]
  show (G.setCell ⟨f,s,none⟩ (.pointer (some ⟨z,0,none⟩))).heap[q]? =_
  rw[zC _ _ _ _ _ R.symm]
  exact hq
 ·have:Rw G f T.L.ns 212 (fiP dn zs):=a1
  refine (this.put s (.pointer (some ⟨z,0,none⟩))).to (fun j _=> ?_)
  unfold zB2 fiP zAx
  by_cases e:j=s
  ·simp[e]
  ·simp[e]
 ·by_cases e:t=s
  ·subst e
   rw[if_pos rfl,if_pos rfl]
   refine⟨?_,zP (zD N (fun y hy=>zC _ _ _ _ _ (by have:=zK N y hy;omega))) hB⟩
   rw[zC _ _ _ _ _ (by omega)]
   exact a2
  ·have Q:dn t=true:=by unfold zAx at hd;rw[if_neg e]at hd;exact hd
   rw[if_neg e,if_neg e]
   exact⟨u _ _ _ (by decide) (by decide) (h.fn t W Q).1,zF (h.fn t W Q).2 (fun j F _ D=>u j F 3 (by decide) (by decide) D)⟩
theorem zIr {dn:Nat→Bool}{s:Nat}(h:dn s=true):zAx dn s true=dn:=by
 funext t;unfold zAx
 by_cases e:t=s
 ·rw[if_pos e,e,h]
 ·rw[if_neg e]
def zPs (kt:Nat→Int)(B k g p q f:Nat)(T:TT)(un:Value)(ul:List Nat)(rd:Nat→Bool)(bl:Nat→ByteArray)(dn:Nat→Bool)(zs:Nat→Nat)(bd:Nat→Value)(s:Nat)(w:World)(e:Ending)(w':World):Prop:=
 ∃(zs':Nat→Nat) (bd':Nat→Value),e=.returned (.pointer (some ⟨zs' s,0,none⟩))∧VS kt B k g p q f T un ul rd bl (zAx dn s true) zs' bd' w'∧Fr (fun j=>j=q∨j=f) w w'∧(∀t,dn t=true→zs' t=zs t∧bd' t=bd t)∧(∀y,dn s=false→(bd' s).ownBlock=some y→w.heap.size≤y)
theorem zAw (kt:Nat→Int)(B k g p q f s:Nat)(T:TT)(un:Value)(ul:List Nat)(rd:Nat→Bool)(bl:Nat→ByteArray)(dn:Nat→Bool)(G:Nat→Nat)(bd:Nat→Value)(w:World)(h:VS kt B k g p q f T un ul rd bl dn G bd w)(hT:zt T)(aC:T.L.es.length≤16∧zM T.L.es≤4096)(hG:Gd kt w)(hB:B≤w.heap.size)(hs:s<T.L.ns):
 Calls Tryz.prog 120 #[.pointer (some ⟨k,0,none⟩),.int .i64 s] w fun e w'=>zPs kt B k g p q f T un ul rd bl dn G bd s w e w':=by
 have H:Hid _:=h
 have a4:w.cell? ⟨k,4,none⟩=some (.slice (some ⟨f,0,none⟩) T.L.ns T.L.ns):=cell_of_row _ _ _ _ 114 _ h.row
 have f1:=h.fiR.cell s hs
 have f2:=h.fiR.free s
 obtain⟨ns,F⟩:∃x,T.L.ns=x:=⟨_,rfl⟩
 have aP:s<ns:=by omega
 have aQ:(s:Int)<(ns:Int):=by omega
 cases hd:dn s with
 |true=>
  have J:fiP dn G s=.pointer (some ⟨G s,0,none⟩):=by unfold fiP;rw[if_pos hd]
  rw[J]at f1
  rw[F]at a4
  have HD:Hid _:=hd
  clear h hd J hG hT
  go_enter Tryz.func120,Tryz.ntmps120
  go_wp2_with fail
  go_ret
  exact⟨G,bd,rfl,by rw[zIr HD.out];exact H.out,Fr.refl _ _,fun t _=>⟨rfl,rfl⟩,fun y U=>by rw[HD.out]at U;cases U⟩
 |false=>
  have J:fiP dn G s=.pointer none:=by unfold fiP;rw[hd];rfl
  rw[J]at f1
  have R:0<T.n:=by have:=hT.k1;unfold TT.n;omega
  have HW:Hid (∀X:World,Below w.heap.size w X→Calls Tryz.prog 158 #[.pointer (some ⟨k,0,none⟩),.int .i64 s] X fun e w'=>zLF q T.L.cnt (blD kt T bl dn) (s*T.n) T.n (stF kt T bl s) (stB kt T bl s) (stM kt T bl s) X e w'):=fun X hX=>
   zFI kt B k g q T.L.cnt s T.n (s*T.n) T (blD kt T bl dn) (stS T bl s) (stH kt T bl s) X (h.below hX).hb hT aC (hG.below hX) rfl hs rfl rfl (fun i hi=>zM7 hd hi) (fun i hi=>rfl)
  have HD:Hid _:=hd
  have HN:Hid _:=R
  rw[F]at a4
  have HQ:Hid (∀X:World,Fr (fun j=>j=q) w X→X.cell? ⟨k,4,none⟩=some (.slice (some ⟨f,0,none⟩) ns ns)∧X.cell? ⟨f,s,none⟩=some (.pointer none)∧X.frozen? ⟨f,s,none⟩=false):=fun X hX=>by
   have r1:=(hX.old k (Array.getElem?_eq_some_iff.1 h.row).1 (zE h.row h.blR (by decide))).trans h.row
   have r2:Rw X f T.L.ns 212 (fiP dn G):=(hX.old f (Array.getElem?_eq_some_iff.1 h.fiR).1 (zE h.fiR h.blR (by decide))).trans h.fiR
   refine⟨by rw[←F];exact cell_of_row _ _ _ _ 114 _ r1,?_,r2.free s⟩
   rw[r2.cell s hs,J]
  have aB:k≠f:=zE h.row h.fiR (by decide)
  have N:Hid (∀(X:World) (v:Value),X.cell? ⟨k,4,none⟩=some (.slice (some ⟨f,0,none⟩) ns ns)→(X.setCell ⟨f,s,none⟩ v).cell? ⟨k,4,none⟩=some (.slice (some ⟨f,0,none⟩) ns ns)):=fun X v hX=>(World.cell?_of_block (a:=⟨k,4,none⟩) (zC X f s k v aB)).trans hX
  clear h hd J hG hT R
  go_enter Tryz.func120,Tryz.ntmps120
  go_wp2_with fail
  go_region_held3 (fun w2=>w2.cell? ⟨k,4,none⟩=some (.slice (some ⟨f,0,none⟩) ns ns)) (first|go_keep|exact N.out D _ q4) ((go_at_call 158;refine Calls.mono (HW.out _ (by first|exact Below.refl _ _|exact (Below.refl _ _).drew)) ?_;rintro e D ⟨z,bv,rfl,hz,Z,Q,hq,hF⟩;have A:Fr (fun j=>j=q) w D:=(by first|exact hF|exact (Fr.drew (Fr.refl _ w)).trans' hF);have W:w.heap.size≤z:=hz;have u:D.ownsRow w.heap.size 3 1 bv (stB kt T bl s).length (unV (stB kt T bl s)):=Q;obtain⟨q4,q5,q6⟩:=HQ.out D A))
  have HV:Hid _:=H.out.worked HN.out hs HD.out hB W Z u hq A
  have HF:Hid (Fr (fun j=>j=q∨j=f) w (D.setCell ⟨f,s,none⟩ (.pointer (some ⟨z,0,none⟩)))):=(A.mono (fun j _ hj=>.inl hj)).set (.inl (.inr rfl)) _ _
  have a2:Hid _:=u
  have y4:=N.out D (.pointer (some ⟨z,0,none⟩)) q4
  have y5:(D.setCell ⟨f,s,none⟩ (.pointer (some ⟨z,0,none⟩))).cell? ⟨f,s,none⟩=some (.pointer (some ⟨z,0,none⟩)):=by
   have:=HV.out.fiR.cell s hs
   rw[this]
   simp[fiP,zAx]
  obtain⟨Y,hY⟩:∃Y,D.setCell ⟨f,s,none⟩ (.pointer (some ⟨z,0,none⟩))=Y:=⟨_,rfl⟩
  rw[hY]at HV HF y4 y5 ⊢
  clear hY hz Z Q hq hF A u q4 q5 q6 W a4 f1 f2
  go_wp2_with fail
  go_ret
  exact⟨_,_,(by rw[if_pos rfl];rfl),HV.out,HF.out,fun t ht=>(by
   have e:t≠s:=fun e=>by rw[e,HD.out]at ht;cases ht
   rw[if_neg e,if_neg e];exact⟨rfl,rfl⟩),fun y _ U=>(by rw[if_pos rfl]at U;exact zK a2.out y U)⟩
theorem zV {w:World}{B U:Nat}{t e:TypeId}{i:TypeInfo}{z:Value}{size bytes:Nat}(Q:TypeId)(R:Tryz.prog.underlying t=some (.slice e))(hi:Tryz.prog.info? e=some i)(hz:i.zero=some z)(hs:i.size=size)(hb:i.bytes=bytes)(N:z.cells.size=size)(G:0<size)
 {v u:Value} {n m:Nat} {D ys:List Value} (J:w.ownsRow B e size v n D) (A:w.ownsRow U e size u m ys) (W:∀u∈ys,u.oneCell'=true) (hn:(n+m)*bytes≤140737488355328) (a6:n+m≤100000000000000) (hB:B≤w.heap.size):
 ∃j w',(Builtin.append_ #[t,t] Q #[v,u]).run Tryz.prog w=.ok j w'∧w'.ownsRow B e size j (n+m) (D++ys)∧w.grownBy w' v.ownBlock∧(j.ownBlock=v.ownBlock∨j.ownBlock=some w.heap.size):=by
 rcases A.2 with ⟨rfl,rfl⟩|⟨g,F,cur,rfl,_⟩
 ·have hy:ys=[]:=List.length_eq_zero_iff.1 (by have:=A.1;omega)
  rw[hy,List.append_nil,Nat.add_zero]
  exact⟨v,w,run_append_owned_none _ B t Q e i size R hi v n D J,J,⟨rfl,rfl,rfl,Nat.le_refl _,fun _ _ _=>rfl⟩,.inl rfl⟩
 ·obtain⟨j,w',X,Z,h4,_,h5⟩:=run_append_own_at (P:=Tryz.prog) w B t Q e i z size bytes R hi hz hs hb N G v n D J ⟨g,0,none⟩ m F ys A.1 (A.cells rfl) W (by unfold maxLen;omega) hn hB
  exact⟨j,w',X,Z,h4,h5⟩
theorem zAF {j:Array Oper}{o:Oper}{a:Act}{w:World}{K:Act→World→Prop}{Q:Exit→Act→World→Prop}{E:Prop}(F:o.guard=none)(x y:Operand)(t:TypeId)(A:o.op=.call { callee:=.builtin .append,args:= #[x,y],argTypes:= #[t,t] })
 (u v r:Value) (J:a.eval x=u) (N:a.eval y=v) (w':World) (G:(Builtin.append_ #[t,t] o.type #[u,v]).run Tryz.prog w=.ok r w') (D:K (a.put o.dst r) w'):if Region.wanted o (yielded j a.tmps)=true then Oper.wp Tryz.prog o a w K Q else E:=by
 rw[if_pos (show Region.wanted o (yielded j a.tmps)=true by simp[Region.wanted,F])]
 unfold Oper.wp
 simp[execOp,A,resolve,invoke,builtin,J,N,G,Result.andThen]
 exact D
theorem zJ {A:Array Oper}{j:List Oper}{o:Oper}{a:Act}{w:World}{Q:Exit→Act→World→Prop}(D:o.guard=none)(x y:Operand)(t:TypeId)
 (G:o.op=.call { callee:=.builtin .append,args:= #[x,y],argTypes:= #[t,t] }) (u v r:Value) (N:a.eval x=u) (R:a.eval y=v) (w':World) (J:(Builtin.append_ #[t,t] o.type #[u,v]).run Tryz.prog w=.ok r w') (h:wpList Tryz.prog A Q j (a.put o.dst r) w'):
 wpList Tryz.prog A Q (o::j) a w:=by
 refine wpList_plain D fun K F=> ?_
 unfold Oper.wp execOp
 simp only[G,resolve,invoke,builtin,Sem.run_bind,Sem.run_pure,Result.andThen_ok,List.map_toArray,List.map_cons,List.map_nil,N,R,J]
 exact F _ _ h
theorem zIq (l:List Nat):∀u∈unV l,u.oneCell'=true:=by
 intro u j
 obtain⟨i,_,rfl⟩:=List.mem_map.1 j
 rfl
theorem zLa (l:List (ByteArray×Nat)):∀u∈enV l,u.oneCell'=true:=by
 intro u A
 obtain⟨x,_,j⟩:=List.mem_flatMap.1 A
 simp at j
 rcases j with rfl|rfl<;>rfl
theorem zEG (w:World)(e:TypeId)(size:Nat):(w.alloc (.cells #[] e)).ownsRow w.heap.size e size (.slice (some ⟨w.heap.size,0,none⟩) 0 0) 0 []:=
 ⟨by simp,.inr ⟨w.heap.size,0,#[],rfl,Nat.le_refl _,heap_alloc_new _ _,Nat.le_refl _,Nat.zero_le _,by simp,by simp⟩⟩
theorem zLT (B n:Nat)(v:Value)(l:List Nat)(w:World)(h:w.ownsRow B 3 1 v n (unV l))(hn:n≤10000000000000):
 Calls Tryz.prog 119 #[v] w fun e w'=>∃F,e=.returned F∧w'.ownsRow w.heap.size 3 1 F n (unV l)∧Below w.heap.size w w':=by
 obtain⟨i0,A,X,Z,z2⟩:=info_parts zBW
 rcases h.2 with ⟨rfl,rfl⟩|⟨g,j,cur,rfl,_⟩
 ·have N:Hid _:=h
  have u:=fun W=>Lib.run_eql_slice_nil (P:=Tryz.prog) W 23 3 none 0 0 0 0 Tryz.underlying23
  clear h
  go_enter Tryz.func119,Tryz.ntmps119
  go_wp2_with fail
  go_ret
  exact⟨_,rfl,⟨N.out.1,.inl ⟨rfl,rfl⟩⟩,Below.refl _ _⟩
 ·obtain⟨F,w',J,D,G,_⟩:=zV 23 Tryz.underlying23 A X Z z2 rfl (by decide) (zEG w 3 1) (h.alloc (.cells #[] 3)) (zIq l) (by omega) (by omega) (by simp)
  rw[Nat.zero_add,List.nil_append]at D
  have Q:Hid _:=D
  have HB:Hid (Below w.heap.size w w'):=((Below.refl _ _).alloc (Nat.le_refl _) _).grown G (by simp) (fun q U=>by simp[Value.ownBlock]at U;omega)
  have u:=fun W=>Lib.run_eql_slice_nil (P:=Tryz.prog) W 23 3 (some ⟨g,0,none⟩) n j 0 0 Tryz.underlying23
  have R:Hid _:=J
  clear D G h J
  go_enter Tryz.func119,Tryz.ntmps119
  go_wp2_with (at_builtin;refine zJ rfl (.tmp 5) (.tmp 6) 23 rfl _ _ _ rfl rfl _ R.out ?_)
  go_ret
  exact⟨_,rfl,Q.out,HB.out⟩
theorem zHe:(Tryz.prog.info? 131).map (fun i=>(i.zero,i.size,i.bytes))=some (some (.agg #[.string ⟨#[]⟩,.int .i64 0]),2,24):=by kernel_rfl
theorem zLS (B n:Nat)(v:Value)(l:List (ByteArray×Nat))(w:World)(h:w.ownsRow B 131 2 v n (enV l))(hn:n≤1000000):
 Calls Tryz.prog 83 #[v] w fun e w'=>∃F,e=.returned F∧w'.ownsRow w.heap.size 131 2 F n (enV l)∧Below w.heap.size w w':=by
 obtain⟨i0,A,X,Z,z2⟩:=info_parts zHe
 rcases h.2 with ⟨rfl,rfl⟩|⟨g,j,cur,rfl,_⟩
 ·have N:Hid _:=h
  have u:=fun W=>Lib.run_eql_slice_nil (P:=Tryz.prog) W 82 131 none 0 0 0 0 Tryz.underlying82
  clear h
  go_enter Tryz.func83,Tryz.ntmps83
  go_wp2_with fail
  go_ret
  exact⟨_,rfl,⟨N.out.1,.inl ⟨rfl,rfl⟩⟩,Below.refl _ _⟩
 ·obtain⟨F,w',J,D,G,_⟩:=zV 82 Tryz.underlying82 A X Z z2 rfl (by decide) (zEG w 131 2) (h.alloc (.cells #[] 131)) (zLa l) (by omega) (by omega) (by simp)
  rw[Nat.zero_add,List.nil_append]at D
  have Q:Hid _:=D
  have HB:Hid (Below w.heap.size w w'):=((Below.refl _ _).alloc (Nat.le_refl _) _).grown G (by simp) (fun q U=>by simp[Value.ownBlock]at U;omega)
  have u:=fun W=>Lib.run_eql_slice_nil (P:=Tryz.prog) W 82 131 (some ⟨g,0,none⟩) n j 0 0 Tryz.underlying82
  have R:Hid _:=J
  clear D G h J
  go_enter Tryz.func83,Tryz.ntmps83
  go_wp2_with (at_builtin;refine zJ rfl (.tmp 5) (.tmp 6) 82 rfl _ _ _ rfl rfl _ R.out ?_)
  go_ret
  exact⟨_,rfl,Q.out,HB.out⟩
structure RL (B0 r:Nat)(L:List (Value×List Nat))(out:Nat→Prop)(w:World):Prop where
 row:w.heap[r]? =some (.cells (L.map Prod.fst).toArray 133 (0,0))
 own:∀x∈L,w.ownsRow B0 3 1 x.1 x.2.length (unV x.2)
 apt:L.Pairwise (fun x y=>Apt x.1 y.1)
 far:∀x∈L,∀j,x.1.ownBlock=some j→¬out j
theorem zMp (a b:List Nat):unV (a++b)=unV a++unV b:=by simp[unV]
theorem zMe (l1 j:List (Value×List Nat))(x y:Value×List Nat):((l1++x::j).map Prod.fst).toArray.setIfInBounds l1.length y.1=((l1++y::j).map Prod.fst).toArray:=by
 apply Array.toList_inj.1
 simp
theorem zJy {α:Type}{R:α→α→Prop}{l1 u:List α}{x y:α}(h:(l1++x::u).Pairwise R)(A:∀a∈l1,R a x→R a y)(D:∀b∈u,R x b→R y b):(l1++y::u).Pairwise R:=by
 rw[List.pairwise_append,List.pairwise_cons]at h ⊢
 refine⟨h.1,⟨fun b hb=>D b hb (h.2.1.1 b hb),h.2.1.2⟩,fun a j b hb=> ?_⟩
 rcases List.mem_cons.1 hb with rfl|hb
 ·exact A a j (h.2.2 a j x List.mem_cons_self)
 ·exact h.2.2 a j b (List.mem_cons_of_mem _ hb)
theorem zJx {α:Type}{R:α→α→Prop}{l1 j:List α}{x:α}(h:(l1++x::j).Pairwise R):(∀a∈l1,R a x)∧∀b∈j,R x b:=by
 rw[List.pairwise_append,List.pairwise_cons]at h
 exact⟨fun a u=>h.2.2 a u x List.mem_cons_self,h.2.1.1⟩
theorem RL.app {X r:Nat}{l1 l2:List (Value×List Nat)}{v N:Value}{G ys:List Nat}{J:Nat→Prop}{w Q:World}(h:RL X r (l1++(v,G)::l2) J w)(Z:w.grownBy Q v.ownBlock)(hO:Q.ownsRow X 3 1 N (G.length+ys.length) (unV G++unV ys))(hb:N.ownBlock=v.ownBlock∨N.ownBlock=some w.heap.size)(U:∀j,J j→j<w.heap.size):
 RL X r (l1++(N,G++ys)::l2) J (Q.setCell ⟨r,l1.length,none⟩ N):=by
 have hv:=h.own (v,G) (by simp)
 have a4:=(Array.getElem?_eq_some_iff.1 h.row).1
 have a5:some r≠v.ownBlock:=fun e=>by
  obtain⟨cur,D⟩:=zB hv r e.symm
  exact zE h.row D (by decide) rfl
 have W:Q.heap[r]? =_:=(Z.block r a4 a5).trans h.row
 have F:∀{B:Nat} {u:Value} {n:Nat} {zs:List Value},Q.ownsRow B 3 1 u n zs→(Q.setCell ⟨r,l1.length,none⟩ N).ownsRow B 3 1 u n zs:=fun hu=>zD hu (fun y hy=>by
  obtain⟨cur,D⟩:=zB hu y hy
  exact zC _ _ _ _ _ (zE D W (by decide)))
 obtain⟨p1,p2⟩:=zJx h.apt
 refine⟨?_,fun x A=> ?_,zJy h.apt (fun a ha hR=> ?_) (fun b a2 hR=> ?_),fun x A j R=> ?_⟩
 ·rw[zH _ _ _ _ _ _ _ W]
  have:=zMe l1 l2 (v,G) (N,G++ys)
  rw[this]
 ·rcases List.mem_append.1 A with A|A
  ·exact F ((h.own x (by simp[A])).kept Z (p1 x A).symm.ne)
  ·rcases List.mem_cons.1 A with rfl|A
   ·refine F ?_
    rw[zMp,List.length_append]
    exact hO
   ·exact F ((h.own x (by simp[A])).kept Z (p2 x A).ne)
 ·exact (Apt.step hR.symm (h.own a (by simp[ha])) hb).symm
 ·exact Apt.step hR (h.own b (by simp[a2])) hb
 ·rcases List.mem_append.1 A with A|A
  ·exact h.far x (by simp[A]) j R
  ·rcases List.mem_cons.1 A with rfl|A
   ·rcases hb with e|e
    ·exact h.far (v,G) (by simp) j (by rw[←e];exact R)
    ·intro ho
     have:=U j ho
     rw[e]at R
     cases R
     omega
   ·exact h.far x (by simp[A]) j R
theorem RL.kept {N r:Nat}{L:List (Value×List Nat)}{A u:Nat→Prop}{w w':World}(h:RL N r L A w)(Q:∀(j:Nat) (D:Array Value) (t:TypeId),t=133∨t=3→w.heap[j]? =some (.cells D t (0,0))→w'.heap[j]? =some (.cells D t (0,0)))(hf:∀j,j<w.heap.size→u j→A j):RL N r L u w' where
 row:=Q _ _ _ (.inl rfl) h.row
 own:=fun x G=>zF (h.own x G) (fun j D _ F=>Q j D 3 (.inr rfl) F)
 apt:=h.apt
 far:=fun x G j F J=>h.far x G j F (hf j (zG (h.own x G) j F) J)
theorem RL.below {A r:Nat}{L:List (Value×List Nat)}{u:Nat→Prop}{w w':World}(h:RL A r L u w)(hb:Below w.heap.size w w'):RL A r L u w':=
 h.kept (fun j _ _ _ D=>(hb.block j (Array.getElem?_eq_some_iff.1 D).1).trans D) (fun _ _ h=>h)
def zH8 (un:Value)(bd:Nat→Value)(dn:Nat→Bool)(ns j:Nat):Prop:=un.ownBlock=some j∨∃s,s<ns∧dn s=true∧(bd s).ownBlock=some j
theorem VS.outs {kt:Nat→Int}{B k g p q f:Nat}{T:TT}{un:Value}{ul:List Nat}{rd:Nat→Bool}{bl:Nat→ByteArray}{dn:Nat→Bool}{D:Nat→Nat}{u:Nat→Value}{w:World}(h:VS kt B k g p q f T un ul rd bl dn D u w)(j:Nat)(A:zH8 un u dn T.L.ns j):j<w.heap.size:=by
 rcases A with e|⟨s,hs,hd,e⟩
 ·exact zG h.unO j e
 ·exact zG (h.fn s hs hd).2 j e
theorem VS.grown {kt:Nat→Int}{B k g p q f:Nat}{T:TT}{un:Value}{ul:List Nat}{rd:Nat→Bool}{bl:Nat→ByteArray}{dn:Nat→Bool}{X:Nat→Nat}{G:Nat→Value}{w W:World}{Z r i:Nat}{l1 l2:List (Value×List Nat)}{v v':Value}{Q:List Nat}(h:VS kt B k g p q f T un ul rd bl dn X G w)(F:RL Z r (l1++(v,Q)::l2) (zH8 un G dn T.L.ns) w)(R:w.grownBy W v.ownBlock):VS kt B k g p q f T un ul rd bl dn X G (W.setCell ⟨r,i,none⟩ v'):=by
 have hv:=F.own (v,Q) (by simp)
 have a1:=(Array.getElem?_eq_some_iff.1 F.row).1
 refine h.kept (fun j cs t U A=> ?_) (fun j A=> ?_)
 ·have D:j≠r:=zE A F.row (by rcases U with e|e|e|e|e|e|e<;>simp[e])
  rw[zC _ _ _ _ _ D,R.block j (Array.getElem?_eq_some_iff.1 A).1 (fun e=>by
   obtain⟨cur,u⟩:=zB hv j e.symm
   exact zE A u (by rcases U with e|e|e|e|e|e|e<;>simp[e]) rfl)]
  exact A
 ·have N:=h.outs j A
  have D:j≠r:=fun e=>by
   obtain⟨cur,u⟩:∃cur,w.heap[j]? =some (.cells cur 3 (0,0)):=by
    rcases A with J|⟨s,hs,hd,J⟩
    ·exact zB h.unO j J
    ·exact zB (h.fn s hs hd).2 j J
   exact zE u F.row (by decide) e
  rw[zC _ _ _ _ _ D,R.block j N (fun e=>F.far (v,Q) (by simp) j e.symm A)]
def abF (rd:Nat→Bool):Nat→List Nat
 |0=>[]
 |i+1=>if rd i=true then abF rd i else abF rd i++[i]
def baF (kt:Nat→Int)(T:TT)(bl:Nat→ByteArray):Nat→List Nat
 |0=>[]
 |s+1=>baF kt T bl s++stB kt T bl s
def fsF (kt:Nat→Int)(T:TT)(bl:Nat→ByteArray)(c:Nat):Nat→List Nat
 |0=>[]
 |s+1=>if stF kt T bl s=c then fsF kt T bl c s++[s] else fsF kt T bl c s
def dnS (dn:Nat→Bool)(s t:Nat):Bool:=dn t||decide (t<s)
theorem zLX (dn:Nat→Bool):dnS dn 0=dn:=by funext t;simp[dnS]
theorem zC8 (dn:Nat→Bool)(s:Nat):zAx (dnS dn s) s true=dnS dn (s+1):=by
 funext t
 unfold zAx dnS
 by_cases e:t=s
 ·rw[if_pos e,e];simp
 ·rw[if_neg e]
  have:decide (t<s)=decide (t<s+1):=by
   rw[decide_eq_decide];omega
  rw[this]
theorem zC4 (rd:Nat→Bool):∀i,(abF rd i).length≤i
 |0=>Nat.le_refl _
 |i+1=>by
  have:=zC4 rd i
  rw[abF];split
  ·omega
  ·rw[List.length_append,List.length_singleton];omega
theorem zA8 (kt:Nat→Int)(T:TT)(bl:Nat→ByteArray)(c:Nat):∀i,(fsF kt T bl c i).length≤i
 |0=>Nat.le_refl _
 |i+1=>by
  have:=zA8 kt T bl c i
  rw[fsF];split
  ·rw[List.length_append,List.length_singleton];omega
  ·omega
theorem zEg (kt:Nat→Int)(T:TT)(bl:Nat→ByteArray):∀s,(baF kt T bl s).length≤s*T.n
 |0=>Nat.zero_le _
 |s+1=>by
  have:=zEg kt T bl s
  have j:(stB kt T bl s).length≤T.n:=zBo _ _ _
  rw[baF,List.length_append,Nat.succ_mul]
  omega
theorem zDS (w:World)(x:Int):(w.alloc (.cells #[.int .i64 x] 3)).ownsRow w.heap.size 3 1 (.slice (some ⟨w.heap.size,0,none⟩) 1 1) 1 [.int .i64 x]:=
 ⟨rfl,.inr ⟨w.heap.size,1,#[.int .i64 x],rfl,Nat.le_refl _,heap_alloc_new _ _,Nat.le_refl _,by unfold maxLen;omega,rfl,rfl⟩⟩
def zAc (a b c d e:Value):Array Value:= #[a,b,c,d,e]
def zHy:Array Value:= #[.slice none 0 0,.slice none 0 0,.slice none 0 0,.slice none 0 0,.slice none 0 0]
structure VR (kt:Nat→Int)(B k g p q f:Nat)(T:TT)(un:Value)(ul:List Nat)(rd:Nat→Bool)(bl:Nat→ByteArray)(dn:Nat→Bool)(zs:Nat→Nat)(bd:Nat→Value)(w0:World)(r0 r:Nat)(L:List (Value×List Nat))(w:World):Prop where
 vs:VS kt B k g p q f T un ul rd bl dn zs bd w
 rl:RL w0.heap.size r L (zH8 un bd dn T.L.ns) w
 r0R:w.heap[r0]? =some (.cells zHy 133 (0,0))
 ne:r0≠r
 lo:w0.heap.size≤r0∧w0.heap.size≤r
 fr:Fr (fun j=>j=q∨j=f) w0 w
theorem VR.app {kt:Nat→Int}{B k g p q f:Nat}{T:TT}{un:Value}{ul:List Nat}{rd:Nat→Bool}{bl:Nat→ByteArray}{dn:Nat→Bool}{U:Nat→Nat}{Q:Nat→Value}{J:World}{G r:Nat}{l1 R:List (Value×List Nat)}{v D:Value}{u ys:List Nat}{w N:World}(h:VR kt B k g p q f T un ul rd bl dn U Q J G r (l1++(v,u)::R) w)
 (F:w.grownBy N v.ownBlock) (W:N.ownsRow J.heap.size 3 1 D (u.length+ys.length) (unV u++unV ys)) (hb:D.ownBlock=v.ownBlock∨D.ownBlock=some w.heap.size):
 VR kt B k g p q f T un ul rd bl dn U Q J G r (l1++(D,u++ys)::R) (N.setCell ⟨r,l1.length,none⟩ D) where
 vs:=h.vs.grown h.rl F
 rl:=h.rl.app F W hb (fun j X=>h.vs.outs j X)
 r0R:=by
  have Z:=h.rl.own (v,u) (by simp)
  rw[zC _ _ _ _ _ h.ne,F.block G (Array.getElem?_eq_some_iff.1 h.r0R).1 (fun e=>by
   obtain⟨cur,A⟩:=zB Z G e.symm
   exact zE h.r0R A (by decide) rfl)]
  exact h.r0R
 ne:=h.ne
 lo:=h.lo
 fr:=(h.fr.grown F (fun y hy=>.inr (zK (h.rl.own (v,u) (by simp)) y hy))).set (.inr h.lo.2) _ _
theorem VR.below {kt:Nat→Int}{B k g p q f:Nat}{T:TT}{un:Value}{ul:List Nat}{rd:Nat→Bool}{bl:Nat→ByteArray}{dn:Nat→Bool}{D:Nat→Nat}{u:Nat→Value}{A:World}{j r:Nat}{L:List (Value×List Nat)}{w w':World}(h:VR kt B k g p q f T un ul rd bl dn D u A j r L w)(hb:Below w.heap.size w w'):VR kt B k g p q f T un ul rd bl dn D u A j r L w' where
 vs:=h.vs.below hb
 rl:=h.rl.below hb
 r0R:=(hb.block j (Array.getElem?_eq_some_iff.1 h.r0R).1).trans h.r0R
 ne:=h.ne
 lo:=h.lo
 fr:=h.fr.thenBelow hb
theorem VR.one {kt:Nat→Int}{B k g p q f:Nat}{T:TT}{un:Value}{ul:List Nat}{rd:Nat→Bool}{bl:Nat→ByteArray}{dn:Nat→Bool}{Z:Nat→Nat}{R:Nat→Value}{J:World}{X r:Nat}{l1 Q:List (Value×List Nat)}{v:Value}{j:List Nat}{w:World}(x:Nat)(h:VR kt B k g p q f T un ul rd bl dn Z R J X r (l1++(v,j)::Q) w)(hx:j.length≤1000000):
 ∃F G,(Builtin.append_ #[23,23] 23 #[v,.slice (some ⟨w.heap.size,0,none⟩) 1 1]).run Tryz.prog (w.alloc (.cells #[.int .i64 x] 3))=.ok F G∧VR kt B k g p q f T un ul rd bl dn Z R J X r (l1++(F,j++[x])::Q) (G.setCell ⟨r,l1.length,none⟩ F)∧G.heap[r]? =some (.cells ((l1++(v,j)::Q).map Prod.fst).toArray 133 (0,0)):=by
 obtain⟨i0,N,z0,z1,z2⟩:=info_parts zBW
 have A:=h.below ((Below.refl w.heap.size w).alloc (Nat.le_refl _) (.cells #[.int .i64 x] 3))
 have W:(w.alloc (.cells #[.int .i64 x] 3)).ownsRow J.heap.size 3 1 v j.length (unV j):=A.rl.own (v,j) (by simp)
 have a4:J.heap.size≤w.heap.size:=h.fr.size
 obtain⟨F,G,hr,ho,U,hb⟩:=zV 23 Tryz.underlying23 N z0 z1 z2 rfl (by decide) W (zDS w x) (by intro u hu;simp at hu;subst hu;rfl) (by omega) (by omega) (by simp;omega)
 refine⟨F,G,hr,A.app (ys:=[x]) U ho hb,?_⟩
 rw[U.block r (Array.getElem?_eq_some_iff.1 A.rl.row).1 (fun e=>by
  obtain⟨cur,D⟩:=zB W r e.symm
  exact zE A.rl.row D (by decide) rfl)]
 exact A.rl.row
theorem VR.more {kt:Nat→Int}{B k g p q f:Nat}{T:TT}{un:Value}{ul:List Nat}{rd:Nat→Bool}{bl:Nat→ByteArray}{dn:Nat→Bool}{X:Nat→Nat}{J:Nat→Value}{F:World}{W r:Nat}{l1 Q:List (Value×List Nat)}{v:Value}{j:List Nat}{w:World}(s:Nat)(h:VR kt B k g p q f T un ul rd bl dn X J F W r (l1++(v,j)::Q) w)(hs:s<T.L.ns)(hd:dn s=true)(hx:j.length≤1000000)(a4:(stB kt T bl s).length≤1000000):
 ∃D G,(Builtin.append_ #[23,23] 23 #[v,J s]).run Tryz.prog w.drew=.ok D G∧VR kt B k g p q f T un ul rd bl dn X J F W r (l1++(D,j++stB kt T bl s)::Q) (G.setCell ⟨r,l1.length,none⟩ D)∧G.heap[r]? =some (.cells ((l1++(v,j)::Q).map Prod.fst).toArray 133 (0,0)):=by
 obtain⟨i0,N,z0,z1,z2⟩:=info_parts zBW
 have u:=h.below ((Below.refl w.heap.size w).drew)
 have U:w.drew.ownsRow F.heap.size 3 1 v j.length (unV j):=u.rl.own (v,j) (by simp)
 have a2:F.heap.size≤w.heap.size:=h.fr.size
 obtain⟨D,G,hr,Z,R,hb⟩:=zV 23 Tryz.underlying23 N z0 z1 z2 rfl (by decide) U (u.vs.fn s hs hd).2 (zIq _) (by omega) (by omega) (by show F.heap.size≤w.heap.size;omega)
 refine⟨D,G,hr,u.app R Z hb,?_⟩
 rw[R.block r (Array.getElem?_eq_some_iff.1 u.rl.row).1 (fun e=>by
  obtain⟨cur,A⟩:=zB U r e.symm
  exact zE u.rl.row A (by decide) rfl)]
 exact u.rl.row
theorem VR.stripe {kt:Nat→Int}{B k g p q f:Nat}{T:TT}{un:Value}{ul:List Nat}{rd:Nat→Bool}{bl:Nat→ByteArray}{dn:Nat→Bool}{Z F:Nat→Nat}{R u:Nat→Value}{X:World}{W r s:Nat}{L:List (Value×List Nat)}{w w':World}(h:VR kt B k g p q f T un ul rd bl dn Z R X W r L w)
 (hv:VS kt B k g p q f T un ul rd bl (zAx dn s true) F u w') (U:Fr (fun j=>j=q∨j=f) w w') (h1:∀t,dn t=true→F t=Z t∧u t=R t) (h2:∀y,dn s=false→(u s).ownBlock=some y→w.heap.size≤y):VR kt B k g p q f T un ul rd bl (zAx dn s true) F u X W r L w':=by
 have D:∀(j:Nat) (N:Array Value) (t:TypeId),t=133∨t=3→w.heap[j]? =some (.cells N t (0,0))→w'.heap[j]? =some (.cells N t (0,0)):=fun j N t J G=>by
  rw[U.old j (Array.getElem?_eq_some_iff.1 G).1 (fun e=>by
   rcases e with e|e
   ·exact zE G h.vs.blR (by rcases J with e|e<;>simp[e]) e
   ·exact zE G h.vs.fiR (by rcases J with e|e<;>simp[e]) e)]
  exact G
 refine⟨hv,h.rl.kept D (fun j G ho=> ?_),D _ _ _ (.inl rfl) h.r0R,h.ne,h.lo,h.fr.trans' U⟩
 rcases ho with e|⟨t,J,hd,e⟩
 ·exact .inl e
 ·by_cases A:dn t=true
  ·exact .inr ⟨t,J,A,by rw[←(h1 t A).2];exact e⟩
  ·have Q:t=s:=by
    rcases Decidable.em (t=s) with e|e
    ·exact e
    ·unfold zAx at hd;rw[if_neg e]at hd;exact absurd hd A
   subst Q
   have:=h2 j (by simpa using A) e
   omega
end Go.Proofs.YtlopecgkiikdhaaGreatDoor
