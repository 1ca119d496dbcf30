import Derived.Test.YtlopecgkiikdhaaGreatDoorX46
import Derived.Test.YtlopecgkiikdhaaGreatDoorX44
namespace Go.Proofs.YtlopecgkiikdhaaGreatDoor
open Go.RowKit
set_option maxRecDepth 100000
set_option maxHeartbeats 4000000
section
open Go.Extern.Stop Go.Stop Go.Extern
theorem zLL (e t:Addr)(w:World)(A:w.cell? ⟨1,0,none⟩=some (.iface 238 (rt 41))):
 Calls Tryz.prog 80 #[.iface 166 (.pointer (some e)),.iface 165 (.pointer (some t))] w fun D w'=>D=.returned (.bool false)∧w'=asC w t:=by
 have F:=(zEf w t ⟨1,0,none⟩ (block_lt_of_cell A)).trans A
 have G:=zOV
 have J:=zOW
 have N:=zOX
 have Q:=zOY
 have R:=zOZ
 have U:=zOa
 have X:=zOb
 have a4:=zOc
 have a5:=zCe 165 (.inl rfl)
 have a9:=zDE 165 (.inl rfl)
 have aD:=zDE 150 (.inr rfl)
 have a6:∀(a:Addr) (u:World),(ReflectliteValue.methodAny (ReflectliteValue.valueError "reflectlite.Value.Type" 0) (fun t _ _ _=>ReflectliteType.toType t) #[rv 165 a 150]).run Tryz.prog u=.ok (.iface 238 (rt 165)) u:=fun a u=>by kernel_rfl
 have a8:∀(v:Value) (u:World),(ReflectliteType.typeOf #[.iface 166 v]).run Tryz.prog u=.ok (.iface 238 (rt 166)) u:=fun v u=>by kernel_rfl
 have aB:∀u:World,(ReflectliteType.method ReflectliteType.elem #[rt 165]).run Tryz.prog u=.ok (.iface 238 (rt 150)) u:=fun u=>by kernel_rfl
 have aC:∀u:World,(ReflectliteType.relation "Implements" ReflectliteType.implements_ #[rt 150,.iface 238 (rt 41)]).run Tryz.prog u=.ok (.bool true) u:=fun u=>by kernel_rfl
 have aA:∀u:World,(ReflectliteType.relation "AssignableTo" ReflectliteType.assignableTo #[rt 166,.iface 238 (rt 150)]).run Tryz.prog u=.ok (.bool false) u:=fun u=>by kernel_rfl
 have mK:=zOg
 have mE:=zOe
 have mI:=zOf
 have mA:=zOd
 have a1:∀(v:Value) (j:TypeId) (u:World),(Instr.typeAssert (.iface 166 v) j 243 true).run Tryz.prog u=.ok (.tuple #[.nilIface,.bool false]) u:=fun v j u=>run_typeAssert_lacksB Tryz.underlying243 (by kernel_rfl) (by kernel_rfl) v j u
 have a2:∀(v:Value) (j:TypeId) (u:World),(Instr.typeAssert (.iface 166 v) j 246 true).run Tryz.prog u=.ok (.tuple #[.nilIface,.bool false]) u:=fun v j u=>run_typeAssert_lacksB Tryz.underlying246 (by kernel_rfl) (by kernel_rfl) v j u
 have a3:∀(v:Value) (j:TypeId) (u:World),(Instr.typeAssert (.iface 166 v) j 248 true).run Tryz.prog u=.ok (.tuple #[.nilIface,.bool false]) u:=fun v j u=>run_typeAssert_lacksB Tryz.underlying248 (by kernel_rfl) (by kernel_rfl) v j u
 have a7:=zEC ⟨w.heap.size,0,none⟩ t (asB w t) (zEe w t)
 dsimp only[XR,rt,rv,asA,asB,asC]at*
 go_enter Tryz.func80,Tryz.ntmps80
 go_wp2
 refine wp_loop_rounds 1 ?_
 rw[rounds_succ]
 go_wp2
 go_ret
 exact⟨rfl,rfl⟩
end
def ErrE (w:World):Value→List (Int×Int)→Prop
 |v,[]=>v=.nilIface∨∃m,v=.iface 166 (.pointer (some m))
 |v,p::l=>∃e u,v=.iface 150 (.pointer (some ⟨e,0,none⟩))∧w.heap[e]? =some (.cells #[.int .i64 p.1,.int .i64 p.2,u] 152 (0,0))∧ErrE w u l
theorem ErrE.uniq {w:World}:∀{l j:List (Int×Int)} {v:Value},ErrE w v l→ErrE w v j→l=j
 |[],[],_,_,_=>rfl
 |[],p::l,v,h,⟨e,u,h1,_⟩=>by
  rcases (show v=.nilIface∨∃m,v=.iface 166 (.pointer (some m)) from h) with h|⟨m,h⟩<;>rw[h]at h1<;>simp at h1
 |p::l,[],v,⟨e,u,h1,_⟩,h=>by
  rcases (show v=.nilIface∨∃m,v=.iface 166 (.pointer (some m)) from h) with h|⟨m,h⟩<;>rw[h]at h1<;>simp at h1
 |p::l,q::j,v,⟨e,u,h1,h2,h3⟩,⟨e',u',h1',h2',h3'⟩=>by
  rw[h1]at h1'
  simp only[Value.iface.injEq,Value.pointer.injEq,Option.some.injEq,Addr.mk.injEq,true_and,and_true]at h1'
  subst h1'
  rw[h2]at h2'
  simp only[Option.some.injEq,Obj.cells.injEq,Array.mk.injEq,List.cons.injEq,Value.int.injEq,true_and,and_true]at h2'
  obtain⟨A,D,a3⟩:=h2'
  subst a3
  rw[ErrE.uniq h3 h3',Prod.ext A D]
theorem zLQ:∃μ:World→Value→Nat,∀w v l,ErrE w v l→μ w v=l.length:=by
 classical
 refine⟨fun w v=>if h:∃l,ErrE w v l then h.choose.length else 0,fun w v l h=> ?_⟩
 have j:∃l,ErrE w v l:=⟨l,h⟩
 simp only[dif_pos j]
 rw[ErrE.uniq j.choose_spec h]
theorem zHw (l:List (Int×Int))(v:Value)(w:World)(hg:w.cell? ⟨1,0,none⟩=some (.iface 238 (.agg #[.pointer (some ⟨7,41,none⟩)])))(hE:ErrE w v l)(hl:l.length≤1000):
 Calls Tryz.prog 53 #[v] w fun ev w'=>∃a c,ev=.returned (.slice a l.length c)∧w'.ownsRow w.heap.size 121 2 (.slice a l.length c) l.length (mkL l)∧Below w.heap.size w w':=by
 obtain⟨μ,hμ⟩:=zLQ
 have HM:Hid _:=hμ
 have aK:1<w.heap.size:=block_lt_of_cell hg
 obtain⟨i0,aJ,b6,b7,b9⟩:=info_parts zHf
 have HE:Hid _:=hE
 have aC:Hid _:=hg
 have HL:Hid _:=hl
 clear hE hg hl hμ
 go_enter Tryz.func53,Tryz.ntmps53
 go_wp2
 go_loopw [0,3] (fun ev mv wr=>∃(dn rs:List (Int×Int)) (old vv mm:Value),vv=ev∧mm=mv∧dn++rs=l∧ErrE w vv rs∧wr.ownsRow w.heap.size 121 2 mm dn.length (mkL dn)∧wr.heap[w.heap.size+1]? =some (.cells #[old] 150 (0,0))∧Below w.heap.size w wr) (fun ev _ _=>μ w ev)
 case atStart=>
  refine⟨[],l,.pointer none,_,_,rfl,rfl,rfl,HE.out,?_,?_,((Below.refl _ _).alloc (Nat.le_refl _) _).alloc (by simp) _⟩
  ·refine⟨rfl,.inr ⟨w.heap.size,0,#[],rfl,Nat.le_refl _,?_,Nat.le_refl _,by simp,rfl,rfl⟩⟩
   rw[heap_alloc_old _ _ (by simp)];exact heap_alloc_new _ _
  ·have:=heap_alloc_new (w.alloc (Obj.cells #[] 121)) (Obj.cells #[Value.pointer none] 150)
   simpa using this
 case round=>
  obtain⟨dn,rs,old,vv,mm,rfl,rfl,hd,a7,j,A,hb⟩:=hrel
  cases rs with
  |nil=>
   have b0:dn=l:=by simpa using hd
   subst b0
   obtain⟨a,c,hs⟩:=zA j
   subst hs
   have HO:Hid _:=j
   have HB:Hid _:=hb
   have Q:wr.cell? ⟨1,0,none⟩=some (.iface 238 (.agg #[.pointer (some ⟨7,41,none⟩)])):=(hb.cell (p:=⟨1,0,none⟩) aK).trans aC.out
   have aU:Hid (vv=.nilIface∨∃m,vv=.iface 166 (.pointer (some m))):=a7
   clear j hb A hd a7
   rcases aU.out with e|⟨m,e⟩
   ·subst e
    go_wp2_with fail
    refine (zHA _ _).mono ?_
    rintro e w' ⟨rfl,rfl⟩
    go_wp2
    go_ret
    exact⟨a,c,rfl,HO.out,HB.out⟩
   ·subst e
    have aV:Hid _:=zLL m ⟨w.heap.size+1,0,none⟩ wr Q
    have HR:Hid (Below wr.heap.size wr (asC wr ⟨w.heap.size+1,0,none⟩)):=(((Below.refl _ _).alloc (Nat.le_refl _) _).alloc (by simp) _).alloc (by simp;omega) _
    clear Q
    go_wp2_with fail
    refine Calls.mono aV.out ?_
    rintro e w' ⟨rfl,aP⟩
    have J:Hid (Below wr.heap.size wr w'):=by rw[aP];exact HR.out
    clear aP
    go_wp2
    go_ret
    exact⟨a,c,rfl,zI HO.out J.out,HB.out.trans (J.out.mono HB.out.size)⟩
  |cons p rs=>
   obtain⟨e,u,b1,a6,aH⟩:=a7
   subst b1
   have a1:e<w.heap.size:=(Array.getElem?_eq_some_iff.1 a6).1
   obtain⟨a,c,hs⟩:=zA j
   subst hs
   have HO:Hid (wr.ownsRow w.heap.size 121 2 (.slice a dn.length c) dn.length (mkL dn)):=j
   have HB:Hid (Below w.heap.size w wr):=hb
   have HU:Hid (ErrE w u rs):=aH
   have HH:Hid (w.heap[e]? =some (.cells #[.int .i64 p.1,.int .i64 p.2,u] 152 (0,0))):=a6
   have HD:Hid (dn++p::rs=l):=hd
   have Q:wr.cell? ⟨1,0,none⟩=some (.iface 238 (.agg #[.pointer (some ⟨7,41,none⟩)])):=(hb.cell (p:=⟨1,0,none⟩) aK).trans aC.out
   have aN:wr.cell? ⟨w.heap.size+1,0,none⟩=some old:=cell_of_row _ _ _ _ 150 _ A
   have aI:wr.frozen? ⟨w.heap.size+1,0,none⟩=false:=frozen_of_row _ _ _ _ 150 A
   have HT:Hid (wr.heap[w.heap.size+1]? =some (.cells #[old] 150 (0,0))):=A
   have aR:w.heap.size+1<wr.heap.size:=(Array.getElem?_eq_some_iff.1 A).1
   have bO:dn.length+1≤1000:=by have:=congrArg List.length HD.out;simp at this;have:=HL.out;omega
   clear hb A j hd a6 aH
   go_wp2_with fail
   refine (zKS ⟨e,0,none⟩ ⟨w.heap.size+1,0,none⟩ old wr Q aN aI).mono ?_
   rintro bM F ⟨rfl,U⟩
   have hr:Below wr.heap.size wr (asD wr ⟨w.heap.size+1,0,none⟩ ⟨e,0,none⟩):=((((Below.refl _ _).alloc (Nat.le_refl _) _).alloc (by simp) _).alloc (by simp;omega) _).alloc (by simp;omega) _
   obtain⟨W,hW⟩:∃W,asD wr ⟨w.heap.size+1,0,none⟩ ⟨e,0,none⟩=W:=⟨_,rfl⟩
   rw[hW]at U hr
   have a8:W.heap[w.heap.size+1]? =some (.cells #[old] 150 (0,0)):=by rw[hr.block _ aR];exact HT.out
   have X:Hid (F.heap[w.heap.size+1]? =some (.cells #[.pointer (some ⟨e,0,none⟩)] 150 (0,0))):=by
    show F.heap[w.heap.size+1]? =_
    rw[U];exact heap_setCell_same W (w.heap.size+1) 0 _ 150 _ a8
   have J:Hid (Below w.heap.size w F):=by
    show Below _ _ _
    rw[U];exact (HB.out.trans (hr.mono HB.out.size)).setCell (by simp) _
   have a2:Hid (F.ownsRow w.heap.size 121 2 (.slice a dn.length c) dn.length (mkL dn)):=by
    show World.ownsRow _ _ _ _ _ _ _
    rw[U]
    refine ownsRow_setCell_other (zI HO.out hr) (fun e'=> ?_) _
    obtain⟨cur,hc⟩:=zB (zI HO.out hr) _ e'
    rw[a8]at hc;simp at hc
   clear U hW hr a8 Q aN aI HT HO
   have G:F.heap[e]? =some (.cells #[.int .i64 p.1,.int .i64 p.2,u] 152 (0,0)):=by rw[J.out.block e a1];exact HH.out
   have a4:F.cell? ⟨e,0,none⟩=some (.int .i64 p.1):=cell_of_row _ _ _ _ 152 _ G
   have aD:F.cell? ⟨e,1,none⟩=some (.int .i64 p.2):=cell_of_row _ _ _ _ 152 _ G
   have aE:F.cell? ⟨e,2,none⟩=some u:=cell_of_row _ _ _ _ 152 _ G
   have c1:F.cell? ⟨w.heap.size+1,0,none⟩=some (.pointer (some ⟨e,0,none⟩)):=cell_of_row _ _ _ _ 150 _ X.out
   have aQ:w.heap.size≤F.heap.size:=J.out.size
   have bG:e<F.heap.size:=by omega
   have aO:w.heap.size+1<F.heap.size:=(Array.getElem?_eq_some_iff.1 X.out).1
   have b3:dn.length+1≤maxLen:=by unfold maxLen;omega
   have b4:(dn.length+1)*16≤140737488355328:=by omega
   have aL:=World.new_ne F _ c1
   have aM:=World.new_ne F _ a4
   obtain⟨k,i⟩:=p
   clear G
   go_wp2
   go_region_held3 (fun w'=>w'.cell? ⟨w.heap.size+1,0,none⟩=some (.pointer (some ⟨e,0,none⟩))∧w'.cell? ⟨e,0,none⟩=some (.int .i64 k)∧w'.cell? ⟨e,1,none⟩=some (.int .i64 i)) (go_keep) (first|(refine zAM rfl (.tmp 9) (.tmp 19) 47 rfl 121 i0 (.agg #[.int .i64 0,.int .i64 0]) 2 16 Tryz.underlying47 aJ b6 b7 b9 rfl (by decide) w.heap.size (.slice a dn.length c) dn.length (mkL dn) (by simp[Act.eval]) (by exact (a2.out.alloc _).drew) ⟨F.heap.size,0,none⟩ 1 1 [.int .i64 k,.int .i64 i] (by simp[Act.eval]) rfl (by exact zFB _ _ _ _) (zFC _ _) b3 b4 (by show w.heap.size≤(F.alloc _).heap.size;simp;omega) ?_;intro v3 w3 R D;have N:Below w.heap.size F w3:=(((Below.refl _ _).alloc aQ _).drew).grown D (by show w.heap.size≤(F.alloc _).heap.size;simp;omega) (fun q hq=>zK a2.out q hq);have a5:w3.heap[w.heap.size+1]? =some (.cells #[.pointer (some ⟨e,0,none⟩)] 150 (0,0)):=(zCE D (w.heap.size+1) aO (fun q hq e'=>by obtain⟨cur,hc⟩:=zB a2.out q hq;rw[e',X.out]at hc;simp at hc)).trans X.out;have d1:w3.cell? ⟨w.heap.size+1,0,none⟩=some (.pointer (some ⟨e,0,none⟩)):=cell_of_row _ _ _ _ 150 _ a5;have d2:=(N.cell (p:=⟨e,0,none⟩) a1).trans a4;have d3:=(N.cell (p:=⟨e,1,none⟩) a1).trans aD))
   have d4:=(N.cell (p:=⟨e,2,none⟩) a1).trans aE
   have aW:Hid (w3.ownsRow w.heap.size 121 2 v3 (dn.length+1) (mkL dn++[.int .i64 k,.int .i64 i])):=R
   have aT:Hid (Below w.heap.size w w3):=J.out.trans N
   have aX:Hid (w3.heap[w.heap.size+1]? =some (.cells #[.pointer (some ⟨e,0,none⟩)] 150 (0,0))):=a5
   clear R D N a5 c1 a4 aD aE aL aM
   go_wp2
   go_roundw
   case rel=>
    refine⟨dn++[(k,i)],rs,_,_,_,rfl,rfl,by rw[←HD.out];simp,HU.out,?_,aX.out,aT.out⟩
    rw[zDO]
    have:=aW.out
    simpa using this
   case measure=>
    rw[HM.out w u rs HU.out,HM.out w _ ((k,i)::rs) ⟨e,u,rfl,HH.out,HU.out⟩]
    simp
theorem zGO (l:List (Int×Int))(v:Value)(w:World)(u:w.cell? ⟨1,0,none⟩=some (.iface 238 (.agg #[.pointer (some ⟨7,41,none⟩)])))(j:ErrE w v l)(hl:l.length≤1000):
 Calls Tryz.prog 22 #[v] w fun A w'=>∃a c,A=.returned (.slice a l.length c)∧w'.ownsRow w.heap.size 121 2 (.slice a l.length c) l.length (mkL l)∧Below w.heap.size w w':=by
 have H:Hid _:=zHw l v w u j hl
 clear u j hl
 go_enter Tryz.func22,Tryz.ntmps22
 go_wp2_with fail
 refine Calls.mono H.out ?_
 rintro e G ⟨a,c,rfl,D,F⟩
 go_wp2
 go_ret
 exact⟨a,c,rfl,D,F⟩
theorem zIk (l:List (Int×Int))(e v:Value)(B:Nat)(w:World)(N:w.cell? ⟨1,0,none⟩=some (.iface 238 (.agg #[.pointer (some ⟨7,41,none⟩)])))(D:ErrE w e l)(G:w.ownsRow B 121 2 v l.length (mkL l))(hl:l.length≤1000)(j:l≠[]):
 Calls Tryz.prog 11 #[e,v] w fun ev w'=>ev=.returned (.bool true)∧Below w.heap.size w w':=by
 have H:Hid _:=zGO l e w N D hl
 obtain⟨a,c,hs⟩:=zA G
 subst hs
 have U:Hid _:=G
 have R:Hid _:=hl
 have F:∃g,e=.iface 150 (.pointer (some ⟨g,0,none⟩)):=by
  cases l with
  |nil=>exact absurd rfl j
  |cons p r=>obtain⟨g,u,h1,_⟩:=D;exact⟨g,h1⟩
 obtain⟨n,A⟩:∃n,l.length=n:=⟨_,rfl⟩
 have a5:n≠0:=by rw[←A];exact fun h=>j (List.length_eq_zero_iff.1 h)
 have HN:Hid _:=A
 clear N D G hl
 obtain⟨g,rfl⟩:=F
 have a6:((n:Int) == 0)=false:=by simp;omega
 go_enter Tryz.func11,Tryz.ntmps11
 go_wp2_with fail
 refine Calls.mono H.out ?_
 rintro e w1 ⟨X,c1,rfl,Q,hb⟩
 have HB:Hid _:=hb
 have J:Hid _:=zCV l X a c1 c _ _ w1 Q (zI U.out hb) R.out
 clear Q hb
 rw[A]at J ⊢
 clear A
 go_wp2_with fail
 refine Calls.mono J.out ?_
 rintro e w2 ⟨rfl,q,rfl⟩
 go_wp2
 go_ret
 exact⟨rfl,below_drewN HB.out q⟩
theorem zNJ (k m:Nat)(a:Option Addr)(c:Nat)(w:World):Calls Tryz.prog 125 #[.int .i64 k,.slice a m c] w fun e w'=>∃u F:Nat,e=.returned (.iface 150 (.pointer (some ⟨u,0,none⟩)))∧w'.heap[u]? =some (.cells #[.int .i64 14,.int .i64 k,.iface 166 (.pointer (some ⟨F,0,none⟩))] 152 (0,0))∧w'.heap[F]? =some (.cells #[.slice a m c] 169 (0,0))∧Below w.heap.size w w':=by
 have J:Hid (∀(b:Addr) (W:World),Calls Tryz.prog 75 #[.int .i64 14,.int .i64 k,.iface 166 (.pointer (some b))] W fun e w'=>∃g:Nat,e=.returned (.iface 150 (.pointer (some ⟨g,0,none⟩)))∧w'.heap[g]? =some (.cells #[.int .i64 14,.int .i64 k,.iface 166 (.pointer (some b))] 152 (0,0))∧Below W.heap.size W w'):=fun b W=>by
  go_enter Tryz.func75,Tryz.ntmps75
  go_wp2
  go_ret
  exact⟨_,rfl,heap_alloc_new _ _,(Below.refl _ _).alloc (Nat.le_refl _) _⟩
 go_enter Tryz.func125,Tryz.ntmps125
 go_wp2_with fail
 refine Calls.mono (J.out _ _) ?_
 rintro e N ⟨g,rfl,A,D⟩
 have G:Hid _:=A
 have j:Hid _:=D
 clear A D
 go_wp2_with fail
 go_ret
 have hb:Below w.heap.size w (w.alloc (.cells #[.slice a m c] 169)):=(Below.refl _ _).alloc (Nat.le_refl _) _
 exact⟨_,_,rfl,G.out,by rw[j.out.block w.heap.size (by simp)];exact heap_alloc_new _ _,hb.trans (j.out.mono hb.size)⟩
theorem zE0 (eg G B m c k:Nat)(a:Option Addr)(H:Nat→ByteArray)(w:World)(hg:w.cell? ⟨1,0,none⟩=some (.iface 238 (rt 41)))(he:w.heap[eg]? =some (.cells #[.int .i64 14,.int .i64 k,.iface 166 (.pointer (some ⟨G,0,none⟩))] 152 (0,0)))(hm:w.heap[G]? =some (.cells #[.slice a m c] 169 (0,0)))(ho:w.ownsRow B 9 1 (.slice a m c) m (tV H m))(aO:m≤1000):
 Calls Tryz.prog 54 #[.iface 150 (.pointer (some ⟨eg,0,none⟩))] w (NmD w H m):=by
 obtain⟨D,a1⟩:∃D,(w.alloc (.cells #[] 9)).alloc (.cells #[.pointer none] 166)=D:=⟨_,rfl⟩
 have F:Below w.heap.size w D:=by rw[←a1];exact ((Below.refl _ _).alloc (Nat.le_refl _) _).alloc (by simp) _
 have s1:D.heap.size=w.heap.size+2:=by rw[←a1];simp
 have ht:D.heap[w.heap.size+1]? =some (.cells #[.pointer none] 166 (0,0)):=by
  rw[←a1]
  have:=heap_alloc_new (w.alloc (.cells #[] 9)) (.cells #[.pointer none] 166)
  have e:(w.alloc (.cells #[] 9)).heap.size=w.heap.size+1:=by simp
  rw[e]at this
  exact this
 have U:D.ownsRow w.heap.size 9 1 (.slice (some ⟨w.heap.size,0,none⟩) 0 0) 0 []:=by rw[←a1];exact zI (zBz w) ((Below.refl _ _).alloc (Nat.le_refl _) _)
 have aB:D.heap[eg]? =_:=(F.block eg (Array.getElem?_eq_some_iff.1 he).1).trans he
 have R:D.heap[G]? =_:=(F.block G (Array.getElem?_eq_some_iff.1 hm).1).trans hm
 have aC:D.cell? ⟨1,0,none⟩=some (.iface 238 (rt 41)):=(F.cell (p:=⟨1,0,none⟩) (block_lt_of_cell hg)).trans hg
 have X:=zI ho F
 have a2:Hid _:=zG9 eg ⟨G,0,none⟩ ⟨w.heap.size+1,0,none⟩ (.pointer none) D aC (cell_of_row _ _ _ _ 152 _ aB) (cell_of_row _ _ _ _ 166 _ ht) (frozen_of_row _ _ _ _ 166 ht)
 obtain⟨W,hW⟩:∃W,(msD D ⟨w.heap.size+1,0,none⟩ ⟨G,0,none⟩).setCell ⟨w.heap.size+1,0,none⟩ (.pointer (some ⟨G,0,none⟩))=W:=⟨_,rfl⟩
 rw[hW]at a2
 have N:Below D.heap.size D (msD D ⟨w.heap.size+1,0,none⟩ ⟨G,0,none⟩):=((((Below.refl _ _).alloc (Nat.le_refl _) _).alloc (by simp) _).alloc (by simp;omega) _).alloc (by simp;omega) _
 have A:∀j,j<D.heap.size→j≠w.heap.size+1→W.heap[j]? =D.heap[j]? :=fun j hj aM=>by
  rw[←hW,zC _ _ _ _ _ aM]
  exact N.block j hj
 have t1:W.cell? ⟨w.heap.size+1,0,none⟩=some (.pointer (some ⟨G,0,none⟩)):=by
  rw[←hW]
  exact cell_of_row _ _ _ _ 166 _ (zH _ _ 0 _ _ _ _ ((N.block _ (by omega)).trans ht))
 have aE:W.heap[G]? =some (.cells #[.slice a m c] 169 (0,0)):=(A G (Array.getElem?_eq_some_iff.1 R).1 (zE R ht (by decide))).trans R
 have m0:W.cell? ⟨G,0,none⟩=some (.slice a m c):=cell_of_row _ _ _ _ 169 _ aE
 have aF:W.ownsRow B 9 1 (.slice a m c) m (tV H m):=zD X (fun y hy=>A y (zG X y hy) (fun e=>by
  obtain⟨cur,J⟩:=zB X y hy
  exact zE J ht (by decide) e))
 have a4:W.ownsRow w.heap.size 9 1 (.slice (some ⟨w.heap.size,0,none⟩) 0 0) 0 []:=zD U (fun y hy=>A y (zG U y hy) (fun e=>by
  obtain⟨cur,J⟩:=zB U y hy
  exact zE J ht (by decide) e))
 have Q:Below w.heap.size w W:=by rw[←hW];exact (F.trans (N.mono F.size)).setCell (p:=⟨w.heap.size+1,0,none⟩) (by show w.heap.size≤w.heap.size+1;omega) _
 obtain⟨i0,aK,z0,z1,z2⟩:=info_parts zD1
 obtain⟨v',w3,hr,a5,aD,_⟩:=zV 22 Tryz.underlying22 aK z0 z1 z2 rfl (by decide) a4 aF (by
  intro u hu
  unfold tV at hu
  obtain⟨j,_,rfl⟩:=List.mem_map.1 hu
  rfl) (by omega) (by omega) Q.size
 rw[Nat.zero_add,List.nil_append]at a5
 have a8:Hid _:=hr
 have aH:Hid _:=a5
 have aG:Hid (Below w.heap.size w w3):=Q.grown aD Q.size (fun y hy=>zK a4 y hy)
 obtain⟨tb,aN⟩:∃tb,w.heap.size+1=tb:=⟨_,rfl⟩
 rw[aN]at t1 a2
 clear F s1 ht U aB R aC X hW N A aE aF a4 Q hr a5 aD hg he hm ho
 go_enter Tryz.func54,Tryz.ntmps54
 go_wp2_with fail
 refine Calls.mono a2.out ?_
 rintro e w2 ⟨rfl,rfl⟩
 go_wp2_with (at_builtin;refine zJ rfl (.tmp 9) (.tmp 13) 22 rfl _ _ _ (by simp[Act.eval]) (by simp[Act.eval]) _ a8.out ?_)
 go_ret
 exact⟨v',rfl,aH.out,aG.out⟩
def LEr2 (er l:Value)(k:Nat)(w:World):Prop:=∃eg mg:Nat,er=.iface 150 (.pointer (some ⟨eg,0,none⟩))∧w.heap[eg]? =some (.cells #[.int .i64 14,.int .i64 k,.iface 166 (.pointer (some ⟨mg,0,none⟩))] 152 (0,0))∧w.heap[mg]? =some (.cells #[l] 169 (0,0))
theorem zO2 (er l:Value)(B m k:Nat)(H:Nat→ByteArray)(w:World)(F:w.cell? ⟨1,0,none⟩=some (.iface 238 (rt 41)))(h:LEr2 er l k w)(D:w.ownsRow B 9 1 l m (tV H m))(j:m≤1000):
 Calls Tryz.prog 24 #[er] w (NmD w H m):=by
 have N:Hid (Calls Tryz.prog 54 #[er] w (NmD w H m)):=by
  obtain⟨Q,R,rfl,u,A⟩:=h
  obtain⟨a,c,rfl⟩:=zA D
  exact zE0 Q R B m c k a H w F u A D j
 clear h D F
 go_enter Tryz.func24,Tryz.ntmps24
 go_wp2_with fail
 refine Calls.mono N.out ?_
 rintro e U ⟨v,rfl,u,A⟩
 have G:Hid _:=u
 have J:Hid _:=A
 clear u A
 go_wp2_with fail
 go_ret
 exact⟨v,rfl,G.out,J.out⟩
def zPr (kt:Nat→Int)(B k g p q f:Nat)(T:TT)(un:Value)(ul:List Nat)(rd:Nat→Bool)(bl:Nat→ByteArray)(s0:Nat)(w:World)(e:Ending)(w':World):Prop:=
 ∃er l H m,e=.returned (.tuple #[.slice none 0 0,er])∧(∃(dn:Nat→Bool) (zs:Nat→Nat) (bd:Nat→Value),VS kt B k g p q f T un ul rd bl dn zs bd w')∧Fr (fun j=>j=q∨j=f) w w'∧w'.ownsRow w.heap.size 9 1 l m (tV H m)∧zh H m=zA5 kt T bl T.L.es.length∧LEr2 er l s0 w'
theorem zIN (kt:Nat→Int)(B k g p q f:Nat)(T:TT)(un:Value)(ul:List Nat)(rd:Nat→Bool)(bl:Nat→ByteArray)(dn:Nat→Bool)(zs:Nat→Nat)(bd:Nat→Value)(w:World)(h:VS kt B k g p q f T un ul rd bl dn zs bd w)(hT:zt T)(a5:T.L.es.length≤16∧zM T.L.es≤4096)(hG:Gd kt w)(hB:B≤w.heap.size)(Q:Nat)(aN:Q<T.L.ns)(a1:stF kt T bl Q≠0)(a7:∀x,x<Q→stF kt T bl x=0):
 Calls Tryz.prog 90 #[.pointer (some ⟨k,0,none⟩)] w fun e w'=>zPr kt B k g p q f T un ul rd bl Q w e w':=by
 have H:Hid _:=h
 obtain⟨ns,G⟩:∃x,T.L.ns=x:=⟨_,rfl⟩
 have a4:w.cell? ⟨k,4,none⟩=some (.slice (some ⟨f,0,none⟩) ns ns):=by rw[←G];exact cell_of_row _ _ _ _ 114 _ h.row
 have aM:0<T.n:=by have:=hT.k1;unfold TT.n;omega
 have bK:ns*T.n≤512:=by rw[←G];exact hT.cnt
 have b0:ns≤512:=by have:ns*1≤ns*T.n:=Nat.mul_le_mul_left ns aM;omega
 rw[G]at aN
 clear h
 go_enter Tryz.func90,Tryz.ntmps90
 go_wp2_with fail
 clear a4
 go_loopw [14] (fun sv wr=>∃(s:Nat) (J:Nat→Nat) (D:Nat→Value),s≤Q∧sv=.int .i64 s∧VS kt B k g p q f T un ul rd bl (dnS dn s) J D wr∧Fr (fun j=>j=q∨j=f) w wr) (fun sv _=>ns-(intOf sv).toNat)
 case atStart=>exact⟨0,zs,bd,by omega,rfl,by rw[zLX];exact H.out,Fr.refl _ _⟩
 case round=>
  obtain⟨s,J,D,bL,rfl,hJ,hF⟩:=hrel
  have HF:Hid _:=hF
  have a6:s<ns:=by omega
  have aI:Hid _:=zAw kt B k g p q f s T un ul rd bl (dnS dn s) J D wr hJ hT a5 (H.out.gd hG hF) (Nat.le_trans hB hF.size) (by rw[G];exact a6)
  have bJ:(s:Int)<(ns:Int):=by omega
  clear hJ hF
  go_wp2_with fail
  refine Calls.mono aI.out ?_
  rintro e w1 ⟨R,X,rfl,A,N,_,_⟩
  rw[zC8]at A
  have aL:dnS dn (s+1) s=true:=by simp[dnS]
  obtain⟨zr,_⟩:=A.fn s (by rw[G];exact a6) aL
  obtain⟨z,hz⟩:∃z,R s=z:=⟨_,rfl⟩
  rw[hz]at zr ⊢
  have u:=HF.out.trans' N
  by_cases aO:s<Q
  ·rw[a7 s aO]at zr
   have d1:w1.cell? ⟨z,1,none⟩=some (.int .i64 0):=cell_of_row _ _ _ _ 216 _ zr
   have aJ:Hid _:=A
   have aD:Hid _:=u
   clear A N zr hz u
   go_wp2_with fail
   go_roundw
   case rel=>exact⟨s+1,R,X,by omega,by go_num,aJ.out,aD.out⟩
   case measure=>simp[intOf];omega
  ·obtain rfl:s=Q:=by omega
   obtain⟨ft,a2⟩:∃x,stF kt T bl s=x:=⟨_,rfl⟩
   rw[a2]at zr a1
   have d1:w1.cell? ⟨z,1,none⟩=some (.int .i64 (ft:Nat)):=cell_of_row _ _ _ _ 216 _ zr
   have bF:((ft:Int) != 0)=true:=by rw[bne_iff_ne];omega
   have bG:¬(ft:Int)=0:=by omega
   have bH:((ft:Int) == 0)=false:=by simp;omega
   have HP:Hid _:=zFw kt B k g p q f T un ul rd bl (dnS dn (s+1)) R X w1 A hT a5 (H.out.gd hG u) (Nat.le_trans hB u.size)
   have U:Hid _:=u
   clear A N zr hz u a2
   go_wp2_with fail
   refine Calls.mono HP.out ?_
   rintro e w2 ⟨v,l,F,n,HH,m,rfl,hP⟩
   obtain⟨p1,p2,p3,p4,p5,p6⟩:=hP
   obtain⟨a,c,hl⟩:=zA p5
   subst hl
   have aE:Hid _:=p1
   have aF:Hid _:=p2
   have aG:Hid (w2.ownsRow w1.heap.size 9 1 (.slice a m c) m (tV HH m)):=p5
   have aH:Hid _:=p6
   clear p1 p2 p3 p4 p5 p6
   go_wp2_with fail
   refine Calls.mono (zNJ s m a c w2) ?_
   rintro e w3 ⟨eg,mg,rfl,h1,h2,h3⟩
   have H1:Hid _:=h1
   have H2:Hid _:=h2
   have H3:Hid _:=h3
   clear h1 h2 h3
   go_wp2_with fail
   go_ret2
   obtain⟨aK,J,D,q1⟩:=aE.out
   exact⟨_,_,HH,m,rfl,⟨aK,J,D,q1.below H3.out⟩,(U.out.trans' aF.out).thenBelow H3.out,zAJ (zI aG.out H3.out) U.out.size,aH.out,eg,mg,rfl,H1.out,H2.out⟩
def zPv (kt:Nat→Int)(B v k g p q f:Nat)(T:TT)(un:Value)(ul:List Nat)(rd:Nat→Bool)(bl:Nat→ByteArray)(s0:Nat)(w:World)(e:Ending)(w':World):Prop:=
 ∃er l H m,e=.returned (.tuple #[.slice none 0 0,er])∧VK kt B v k g p q f T un ul rd bl w'∧Fr (fun j=>j=q∨j=f∨j=v) w w'∧w'.ownsRow w.heap.size 9 1 l m (tV H m)∧zh H m=zA5 kt T bl T.L.es.length∧LEr2 er l s0 w'
theorem LEr2.set {er l:Value}{k v:Nat}{w:World}{D:Array Value}(h:LEr2 er l k w)(A:w.heap[v]? =some (.cells D 70 (0,0)))(x:Value):LEr2 er l k (w.setCell ⟨v,0,none⟩ x):=by
 obtain⟨F,J,G,j,u⟩:=h
 exact⟨F,J,G,by rw[zC _ _ _ _ _ (zE j A (by decide))];exact j,by rw[zC _ _ _ _ _ (zE u A (by decide))];exact u⟩
section
variable (kt:Nat→Int) (B v k g p q f:Nat) (T:TT) (un:Value) (ul:List Nat) (rd:Nat→Bool) (bl:Nat→ByteArray) (w:World)
theorem zGz (h:VK kt B v k g p q f T un ul rd bl w)(hT:zt T)(a2:T.L.es.length≤16∧zM T.L.es≤4096)(hG:Gd kt w)(hB:B≤w.heap.size)(h2:v≠3)(F:Nat)(a4:F<T.L.ns)(J:stF kt T bl F≠0)(N:∀x,x<F→stF kt T bl x=0):
 Calls Tryz.prog 70 #[.pointer (some ⟨v,0,none⟩)] w fun e w'=>zPv kt B v k g p q f T un ul rd bl F w e w':=by
 obtain⟨R,dn,zs,bd,h⟩:=h
 have A:Fr (fun j=>j=v) w (w.setCell ⟨v,0,none⟩ (.int .i32 1)):=(Fr.refl (fun j=>j=v) w).set (.inl rfl) _ _
 refine Calls.mono (zD5 v k w (fun a5 w'=>∃er l H m,a5=.tuple #[.slice none 0 0,er]∧VK kt B v k g p q f T un ul rd bl w'∧Fr (fun j=>j=q∨j=f∨j=v) w w'∧w'.ownsRow w.heap.size 9 1 l m (tV H m)∧zh H m=zA5 kt T bl T.L.es.length∧LEr2 er l F w') R ?_) ?_
 ·refine Calls.mono (zIN kt B k g p q f T un ul rd bl dn zs bd _ (h.set R (.inr rfl) _ _) hT a2 (hG.fr A (fun e=>h2 e.symm)) (Nat.le_trans hB A.size) F a4 J N) ?_
  rintro e w' ⟨er,l,H,m,rfl,⟨X,a6,U,hS⟩,hF,ho,ht,hl⟩
  have u:VL v k 1 w':=by
   have D:=VL.one R
   have G:=h.set R (.inr rfl) 0 (.int .i32 1)
   unfold VL at D ⊢
   rw[hF.old v (Array.getElem?_eq_some_iff.1 D).1 (fun e=>by
    rcases e with e|e
    ·exact zE D G.blR (by decide) e
    ·exact zE D G.fiR (by decide) e)]
   exact D
  refine⟨_,_,rfl,u,er,l,H,m,rfl,⟨u.zero,X,a6,U,hS.set u (.inr rfl) _ _⟩,?_,zAE (zAJ ho A.size) u (by decide) _,ht,hl.set u _⟩
  exact ((A.mono (T:=fun j=>j=q∨j=f∨j=v) (fun j _ e=>.inr (.inr e))).trans' (hF.mono (fun j _ e=>by rcases e with e|e;exact .inl e;exact .inr (.inl e)))).set (.inl (.inr (.inr rfl))) _ _
 ·rintro e w' ⟨a,b,rfl,er,l,H,m,Q,D,h2,h3,h4,h5⟩
  exact⟨er,l,H,m,by rw[Q],D,h2,h3,h4,h5⟩
theorem zFE (h:VK kt B v k g p q f T un ul rd bl w)(Q:zt T)(a4:T.L.es.length≤16∧zM T.L.es≤4096)(a6:∀x∈T.L.es,x.1.size≤255)(hG:Gd kt w)(hB:B≤w.heap.size)(N:v≠3)(ha:∀s,s<T.L.ns→stF kt T bl s=0):
 Calls Tryz.prog 70 #[.pointer (some ⟨v,0,none⟩)] w fun e w'=>∃F,e=.returned (.tuple #[F,.nilIface])∧VK kt B v k g p q f T un ul rd bl w'∧Fr (fun j=>j=q∨j=f∨j=v) w w'∧w'.ownsRow w.heap.size 9 1 F T.L.V (tV (reV kt T (blW kt T bl)) T.L.V):=by
 obtain⟨R,dn,zs,bd,h⟩:=h
 have u:Fr (fun j=>j=v) w (w.setCell ⟨v,0,none⟩ (.int .i32 1)):=(Fr.refl (fun j=>j=v) w).set (.inl rfl) _ _
 have a5:0<T.n:=by have:=Q.k1;unfold TT.n;omega
 refine Calls.mono (zD5 v k w (fun a7 w'=>∃F,a7=.tuple #[F,.nilIface]∧VK kt B v k g p q f T un ul rd bl w'∧Fr (fun j=>j=q∨j=f∨j=v) w w'∧w'.ownsRow w.heap.size 9 1 F T.L.V (tV (reV kt T (blW kt T bl)) T.L.V)) R ?_) ?_
 ·refine Calls.mono (zIO kt B k g p q f T un ul rd bl dn zs bd _ (h.set R (.inr rfl) _ _) Q a4 a6 (hG.fr u (fun e=>N e.symm)) (Nat.le_trans hB u.size) ha) ?_
  rintro e w' ⟨a8,U,X,rfl,a2,hR,hS,hF⟩
  have A:VL v k 1 w':=by
   have D:=VL.one R
   have G:=h.set R (.inr rfl) 0 (.int .i32 1)
   unfold VL at D ⊢
   rw[hF.old v (Array.getElem?_eq_some_iff.1 D).1 (fun e=>by
    rcases e with e|e
    ·exact zE D G.blR (by decide) e
    ·exact zE D G.fiR (by decide) e)]
   exact D
  have a1:Rw w' X T.L.V 9 (tX (reV kt T (blW kt T bl))):=hR.to (fun j hj=>by
   show Value.string _=Value.string _
   congr 1
   exact zIK (fun x hx=>(zHE (kt:=kt) (bl:=bl) (dn:=dnS dn T.L.ns) a5 (fun s hs=>by simp[dnS,hs]) ha hx).1) Q.v1 hj)
  have ho:w'.ownsRow w.heap.size 9 1 (.slice (some ⟨X,0,none⟩) T.L.V T.L.V) T.L.V (tV (reV kt T (blW kt T bl)) T.L.V):=by
   have aB:=Q.v16
   refine⟨by simp[tV],.inr ⟨X,T.L.V,_,rfl,Nat.le_trans u.size a2,a1,Nat.le_refl _,by unfold maxLen;omega,by simp[zCl],?_⟩⟩
   refine List.ext_getElem (by simp[zCl,tV]) (fun i D N=> ?_)
   simp[zCl,tV,tX]
  refine⟨_,_,rfl,A,_,rfl,⟨A.zero,_,a8,U,hS.set A (.inr rfl) _ _⟩,?_,zAE ho A (by decide) _⟩
  exact ((u.mono (T:=fun j=>j=q∨j=f∨j=v) (fun j _ e=>.inr (.inr e))).trans' (hF.mono (fun j _ e=>by rcases e with e|e;exact .inl e;exact .inr (.inl e)))).set (.inl (.inr (.inr rfl))) _ _
 ·rintro e w' ⟨a,b,rfl,F,J,D,N,h3⟩
  exact⟨F,by rw[J],D,N,h3⟩
end
def LEx (er l:Value):Option Nat→World→Prop
 |none,_=>er=.nilIface
 |some k,w=>LEr2 er l k w
def zOR:Option Nat→List (Int×Int)
 |none=>[]
 |some k=>[(14,(k:Int))]
theorem LEx.kept {er l:Value}{w w':World}(hk:∀(j:Nat) (u:Array Value) (t:TypeId),t=152∨t=169→w.heap[j]? =some (.cells u t (0,0))→w'.heap[j]? =some (.cells u t (0,0))):∀{c:Option Nat},LEx er l c w→LEx er l c w'
 |none,h=>h
 |some _,⟨eg,mg,h1,h2,h3⟩=>⟨eg,mg,h1,hk _ _ _ (.inl rfl) h2,hk _ _ _ (.inr rfl) h3⟩
theorem LEx.told {er l v:Value}{w:World}{B:Nat}:∀{c:Option Nat},LEx er l c w→Ge w→Mk w B v (zOR c)→Calls Tryz.prog 11 #[er,v] w fun e w'=>e=.returned (.bool true)∧Below w.heap.size w w'
 |none,h,hg,hm=>zCd [] er v B w hg.err h hm (by simp)
 |some k,h,hg,hm=>by
  obtain⟨j,F,u,A,D⟩:=h
  exact zIk [(14,(k:Int))] er v B w hg.err ⟨j,_,u,A,.inr ⟨_,rfl⟩⟩ hm (by simp) (by simp)
theorem LEx.names {er l:Value}{w:World}{B m:Nat}{H:Nat→ByteArray}(j:m≤1000):∀{c:Option Nat},LEx er l c w→Ge w→w.ownsRow B 9 1 l m (tV H m)→(c=none→m=0)→Calls Tryz.prog 24 #[er] w (NmD w H m)
 |none,h,hg,ho,hc=>by
  have u:=hc rfl
  subst u
  exact zJm er l B 0 H w hg.err (.inl ⟨rfl,h⟩) ho (by omega)
 |some k,h,hg,ho,_=>zO2 er l B m k H w hg.err h ho j
theorem zKo (H:Nat→ByteArray)(n:Nat)(l:List ByteArray)(J:zh H n=l)(N F:Nat)(x y:Value)(w:World)(hn:n≤1000000)(G:w.ownsRow N 9 1 x n (tV H n))(U:OwnT w F y l):
 Calls Tryz.prog 17 #[x,y] w fun e w'=>e=.returned (.bool true)∧Below w.heap.size w w':=by
 have hl:l.length=n:=by rw[←J,zi]
 have u:w.ownsRow F 9 1 y n (tV H n):=by
  have j:=U
  unfold OwnT at j
  have e:txs l=tV H n:=by rw[←J];simp[txs,zh,tV,List.map_map]
  rw[hl,e]at j
  exact j
 rcases Nat.eq_zero_or_pos n with A|A
 ·subst A
  obtain⟨Q,c1,rfl⟩:=zA G
  obtain⟨R,c2,rfl⟩:=zA u
  exact (zN7 Q R c1 c2 w).mono fun e w' ⟨j,q,D⟩=>⟨j,by rw[D];exact below_drewN (Below.refl _ _) q⟩
 ·obtain⟨g1,c1,rfl,_,_,k1⟩:=zAb G A
  obtain⟨g2,c2,rfl,_,_,X⟩:=zAb u A
  exact (zEM H H n g1 c1 g2 c2 w (by omega) k1 X (fun _ _=>rfl)).mono fun e w' ⟨j,q,D⟩=>⟨j,by rw[D];exact below_drewN (Below.refl _ _) q⟩
structure PS (kt:Nat→Int)(base h:Nat)(lost:Bool)(ds:List Dr)(m:Nat)(Z:Nat→Prop)(S T0:Nat)(er l:Value)(c:Option Nat)(mn:Nat)(H:Nat→ByteArray)(vm vl:Value)(W w:World):Prop where
 hk:∃bk,HK kt base h lost ds bk Z w∧bk.le m∧∀j,bk.has j→j<T0
 er:LEx er l c w
 lo:w.ownsRow 0 9 1 l mn (tV H mn)
 vm:Mk w 0 vm (zOR c)
 vl:OwnT w 0 vl (zh H mn)
 sz:S≤w.heap.size
 zc:∀j,S≤j→Z j
 mn16:mn≤16
 c0:c=none→mn=0
 bel:Below base W w
section
variable {kt:Nat→Int} {base h:Nat} {lost:Bool} {ds:List Dr} {m:Nat} {Z:Nat→Prop} {S T0:Nat} {er l:Value} {c:Option Nat} {mn:Nat} {H:Nat→ByteArray} {vm vl:Value} {W w w':World}
theorem PS.low (P:PS kt base h lost ds m Z S T0 er l c mn H vm vl W w)(hb:Below w.heap.size w w'):PS kt base h lost ds m Z S T0 er l c mn H vm vl W w':=by
 obtain⟨F,A,G,J⟩:=P.hk
 exact⟨⟨F,A.low hb,G,J⟩,P.er.kept (fun j N t _ D=>by rw[hb.block j (Array.getElem?_eq_some_iff.1 D).1];exact D),zD P.lo (fun q u=>hb.block q (zG P.lo q u)),zD P.vm (fun q u=>hb.block q (zG P.vm q u)),P.vl.below hb,Nat.le_trans P.sz hb.size,P.zc,P.mn16,P.c0,P.bel.trans (hb.mono A.bw)⟩
theorem PS.ge (P:PS kt base h lost ds m Z S T0 er l c mn H vm vl W w):Ge w:=by
 obtain⟨u,j,_⟩:=P.hk
 exact j.glb.ge
theorem PS.told (P:PS kt base h lost ds m Z S T0 er l c mn H vm vl W w):Calls Tryz.prog 11 #[er,vm] w fun e w'=>e=.returned (.bool true)∧PS kt base h lost ds m Z S T0 er l c mn H vm vl W w':=
 (P.er.told P.ge P.vm).mono fun _ _ h=>⟨h.1,P.low h.2⟩
theorem PS.names (P:PS kt base h lost ds m Z S T0 er l c mn H vm vl W w):Calls Tryz.prog 24 #[er] w fun e w'=>∃v,e=.returned v∧PS kt base h lost ds m Z S w.heap.size er l c mn H vm vl W w'∧w'.ownsRow w.heap.size 9 1 v mn (tV H mn)∧∀j,v.ownBlock=some j→(w.heap.size≤j∧l.ownBlock≠some j∧vl.ownBlock≠some j)∧Z j:=
 (P.er.names (Nat.le_trans P.mn16 (by omega)) P.ge P.lo P.c0).mono fun e w' ⟨v,N,F,G⟩=>by
   refine⟨v,N,?_,F,fun j A=> ?_⟩
   ·have u:=P.low G
    obtain⟨J,k1,R,U⟩:=P.hk
    obtain⟨X,Q,_⟩:=k1.book
    exact⟨⟨J,k1.low G,R,fun j A=>(Q.lt A).2⟩,u.er,u.lo,u.vm,u.vl,u.sz,u.zc,u.mn16,u.c0,u.bel⟩
   ·have D:=zK F j A
    exact⟨⟨D,fun e=>by have:=zG P.lo j e;omega,fun e=>by have:=zG P.vl j e;omega⟩,P.zc j (Nat.le_trans P.sz D)⟩
theorem PS.same (P:PS kt base h lost ds m Z S T0 er l c mn H vm vl W w){v:Value}{B:Nat}(j:w.ownsRow B 9 1 v mn (tV H mn)):Calls Tryz.prog 17 #[v,vl] w fun e w'=>e=.returned (.bool true)∧PS kt base h lost ds m Z S T0 er l c mn H vm vl W w'∧w'.ownsRow B 9 1 v mn (tV H mn):=
 (zKo H mn _ rfl B 0 v vl w (Nat.le_trans P.mn16 (by omega)) j P.vl).mono fun _ _ h=>⟨h.1,P.low h.2,zD j (fun q u=>h.2.block q (zG j q u))⟩
theorem PS.keepT (P:PS kt base h lost ds m Z S T0 er l c mn H vm vl W w)(hm:m≤100000000000){v:Value}{n:Nat}{xs:List Value}(ho:w.ownsRow base 9 1 v n xs)(hn:n≤1000000)(R:∀j,v.ownBlock=some j→(T0≤j∧l.ownBlock≠some j∧vl.ownBlock≠some j)∧Z j):Calls Tryz.prog 69 #[.pointer (some ⟨h,1,none⟩),v] w fun e w'=>e=.returned (.tuple #[])∧PS kt base h lost ds (m+1) Z S w'.heap.size er l c mn H vm vl W w':=by
 obtain⟨bk,Q,U,h3⟩:=P.hk
 obtain⟨l0,a1,a2⟩:=Q.book
 refine (Go.Proofs.YtlopecgkiikdhaaGreatDoor.keepT base h l0 (.bool lost) bk v n xs w a1 ho (fun j A G=>by have a:=(R j A).1.1;have b:=h3 j G;omega) Q.bw Q.lo (by omega) (Nat.le_trans U.1 hm) (Nat.le_trans U.2.1 hm)).mono fun e w' G=>⟨G.1,?_⟩
 obtain⟨y,b1,b2,b3,b4⟩:=G.2
 obtain⟨y',h4,h5⟩:=Q.keepT a2 G.2 (fun j A=>⟨(R j A).2,by obtain⟨c,D⟩:=zB ho j A;exact⟨c,9,D,by simp⟩⟩)
 have F:∀(j:Nat) (u:Array Value) (t:TypeId),w.heap[j]? =some (.cells u t (0,0))→t≠33→t≠99→v.ownBlock≠some j→w'.heap[j]? =some (.cells u t (0,0)):=b3
 have N:∀(j:Nat) (u:Array Value) (t:TypeId),w.heap[j]? =some (.cells u t (0,0))→t≠9→v.ownBlock≠some j:=fun j u t A J e=>by
  obtain⟨c,D⟩:=zB ho j e
  exact zE A D J rfl
 obtain⟨aD,X,_⟩:=h4.book
 refine⟨⟨_,h4,U.oneT,fun j A=>(X.lt A).2⟩,P.er.kept (fun j u t J A=>F j u t A (by rcases J with e|e<;>rw[e]<;>decide) (by rcases J with e|e<;>rw[e]<;>decide) (N j u t A (by rcases J with e|e<;>rw[e]<;>decide))),zF P.lo (fun j u A D=>F j u 9 D (by decide) (by decide) (fun e=>(R j e).1.2.1 A)),zF P.vm (fun j u _ D=>F j u 121 D (by decide) (by decide) (N j u 121 D (by decide))),zF P.vl (fun j u A D=>F j u 9 D (by decide) (by decide) (fun e=>(R j e).1.2.2 A)),Nat.le_trans P.sz b4.size,P.zc,P.mn16,P.c0,P.bel.trans b4⟩
theorem PS.keepO (P:PS kt base h lost ds m Z S T0 er l c mn H vm vl W w)(hm:m≤100000000000){v:Value}{n:Nat}{xs:List Value}(ho:w.ownsRow base 149 2 v n xs)(hn:n≤1000000)(hv:∀j,v.ownBlock=some j→T0≤j∧Z j):Calls Tryz.prog 68 #[.pointer (some ⟨h,1,none⟩),v] w fun e w'=>e=.returned (.tuple #[])∧PS kt base h lost ds (m+1) Z S w'.heap.size er l c mn H vm vl W w':=by
 obtain⟨bk,Q,R,h3⟩:=P.hk
 obtain⟨l0,X,a1⟩:=Q.book
 refine (Go.Proofs.YtlopecgkiikdhaaGreatDoor.keepO base h l0 (.bool lost) bk v n xs w X ho (fun j D J=>by have a:=(hv j D).1;have b:=h3 j J;omega) Q.bw Q.lo (by omega) (Nat.le_trans R.1 hm) (Nat.le_trans R.2.2.2.1 hm)).mono fun e w' J=>⟨J.1,?_⟩
 obtain⟨y,b1,b2,b3,b4⟩:=J.2
 obtain⟨y',h4,h5⟩:=Q.keepO a1 J.2 (fun j D=>⟨(hv j D).2,by obtain⟨c,A⟩:=zB ho j D;exact⟨c,149,A,by simp⟩⟩)
 have F:∀(j:Nat) (u:Array Value) (t:TypeId),w.heap[j]? =some (.cells u t (0,0))→t≠33→t≠104→v.ownBlock≠some j→w'.heap[j]? =some (.cells u t (0,0)):=b3
 have G:∀(j:Nat) (u:Array Value) (t:TypeId),w.heap[j]? =some (.cells u t (0,0))→t≠149→v.ownBlock≠some j:=fun j u t D N e=>by
  obtain⟨c,A⟩:=zB ho j e
  exact zE D A N rfl
 obtain⟨aD,U,_⟩:=h4.book
 refine⟨⟨_,h4,R.oneO,fun j D=>(U.lt D).2⟩,P.er.kept (fun j u t N D=>F j u t D (by rcases N with e|e<;>rw[e]<;>decide) (by rcases N with e|e<;>rw[e]<;>decide) (G j u t D (by rcases N with e|e<;>rw[e]<;>decide))),zF P.lo (fun j u _ A=>F j u 9 A (by decide) (by decide) (G j u 9 A (by decide))),zF P.vm (fun j u _ A=>F j u 121 A (by decide) (by decide) (G j u 121 A (by decide))),zF P.vl (fun j u _ A=>F j u 9 A (by decide) (by decide) (G j u 9 A (by decide))),Nat.le_trans P.sz b4.size,P.zc,P.mn16,P.c0,P.bel.trans b4⟩
theorem PS.fin (P:PS kt base h lost ds m Z S T0 er l c mn H vm vl W w):HSt kt base h lost ds m W w:=by
 obtain⟨j,u,A,_⟩:=P.hk
 exact⟨j,u.mono (fun _ h=>h.elim),A,P.bel⟩
end
end Go.Proofs.YtlopecgkiikdhaaGreatDoor
