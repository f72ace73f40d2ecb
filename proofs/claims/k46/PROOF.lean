import PyProof.Rows.All
import Wide.All
import OpenK.AllK
import Wide.FinOn
import Lean
import PyProof.EqAt
import PyProof.EqKinds
import PyProof.TupleCall
import PySem.Challenge.RW_duskbook_k46_ifs_won
set_option Elab.async false
set_option linter.all false
set_option maxRecDepth 100000
abbrev fsc(l:List (PySem.Str × PySem.NameKind)):PySem.Scope:={ kind:=.function,names:=l,isGenerator:=false,isCoroutine:=false,more:=[] }
theorem qa{α β:Type _}{o:Option α}{f:α→Option β}{b:β}(h:o.bind f=some b):∃a,o=some a∧f a=some b:=Option.bind_eq_some_iff.mp h
theorem qb{α β:Type _}{o:Option α}{f:α→β}{b:β}(h:o.map f=some b):∃a,o=some a∧f a=b:=Option.map_eq_some_iff.mp h
def qc:=@Option.bind_some
def qd:=@PySem.Heap.get?_push_of_some
def qe:=@List.length_map
def qf:=@List.mem_cons_of_mem
def qg:=@List.mem_cons_self
def qh:=@Bool.false_ne_true
def qi:=@Array.length_toList
def qj:=@List.size_toArray
def qk:=@PySem.Heap.lt_size
def ql:=@Nat.ne_of_lt
theorem qm{α:Type _}{l:List α}{i:Nat}{a:α}(h:l[i]?=some a):∃h:i < l.length,l[i]=a:=List.getElem?_eq_some_iff.mp h
def qo:=@PySem.Heap.get?_push_size
def qp:=@List.getElem?_eq_getElem
def qq:=@List.length_cons
theorem qr{α:Type _}{a b:α}{l:List α}(h:a∈b::l):a=b∨a∈l:=List.mem_cons.mp h
def qt:=@Nat.le_refl
theorem qu{α:Type _}{a:α}{s t:List α}(h:a∈s++t):a∈s∨a∈t:=List.mem_append.mp h
def qv:=@Nat.lt_succ_of_lt
theorem qw{α β:Type _}{b:β}{f:α→β}{l:List α}(h:b∈l.map f):∃a,a∈l∧f a=b:=List.mem_map.mp h
def qx:=@List.getElem_mem
def qy:=@List.length_append
def qz:=@Nat.lt_succ_self
theorem Qa{m n:Nat}(h:m∈List.range n):m < n:=List.mem_range.mp h
theorem Qb{α:Type _}{p:α→Bool}{l:List α}{a:α}(h:a∈l.filter p):a∈l∧p a=true:=List.mem_filter.mp h
def Qc:=@List.map_cons
def Qd:=@Bool.and_eq_true
def Qe:=@List.getElem?_set_ne
def Qf:=@Nat.le_trans
def Qg:=@List.getElem?_map
def Qh:=@Nat.lt_of_lt_of_le
def Qi:=@Nat.lt_irrefl
def Qj:=@List.map_map
def Qk:=@List.mem_singleton
def Ql:=@Bool.false_eq_true
def Qm:=@List.length_filter_le
def Qn:=@List.getD_eq_getElem?_getD
def Qo:=@List.getElem?_set_self
def Qp:=@List.mem_append_right
set_option maxHeartbeats 4000000
namespace L2
open PySem PySem.Spec PyProof.Rows
noncomputable abbrev Key:=Sum Int Str
noncomputable def Yqp:Key→Value→Bool
 | .inl k,v=>Value.isInt k v
 | .inr x,v=>Value.isStrOf x v
noncomputable def keyH(w:World):Key→Int
 | .inl k=>hashInt k
 | .inr x=>hashStr w x
theorem Ya7:∀{k:Key} {v:Value},Yqp k v=true→(∃i t,k=Sum.inl i∧v=Value.int i t)∨(∃x t,k=Sum.inr x∧v=Value.str x t)
 | .inl i,v,h=>by
   obtain⟨t,e⟩:=Value.isInt_shape (k:=i) (v:=v) h
   exact .inl ⟨i,t,rfl,e⟩
 | .inr x,v,h=>by
   obtain⟨t,e⟩:=Value.isStrOf_shape (x:=x) (v:=v) h
   exact .inr ⟨x,t,rfl,e⟩
theorem Yue(i:Int)(t:Tok):Yqp (.inl i) (.int i t)=true:=by simp[Yqp,Value.isInt]
theorem Yuf(x:Str)(t:Tok):Yqp (.inr x) (.str x t)=true:=by simp[Yqp,Value.isStrOf]
theorem y2i(a b:Int):decide ((Sum.inl a:Key)=Sum.inl b)=(a==b):=by
 by_cases e:a=b
 ·subst e;simp
 ·have h:¬(Sum.inl a:Key)=Sum.inl b:=fun q=>e (Sum.inl.inj q)
  rw[decide_eq_false h]
  exact(beq_eq_false_iff_ne.mpr e).symm
theorem y2j(a b:Str):decide ((Sum.inr a:Key)=Sum.inr b)=decide (a=b):=by
 by_cases e:a=b
 ·subst e;simp
 ·have h:¬(Sum.inr a:Key)=Sum.inr b:=fun q=>e (Sum.inr.inj q)
  rw[decide_eq_false h,decide_eq_false e]
theorem y2k(a:Int)(b:Str):decide ((Sum.inl a:Key)=Sum.inr b)=false:=decide_eq_false (fun q=>nomatch q)
theorem y2l(a:Str)(b:Int):decide ((Sum.inr a:Key)=Sum.inl b)=false:=decide_eq_false (fun q=>nomatch q)
noncomputable def Yao(prog:Program)(w:World):KeyKind prog w Key where
 is:=Yqp
 hash:=keyH w
 inj:=fun v a b ha hb=>by
  rcases Ya7 ha with⟨i,t,rfl,rfl⟩ | ⟨x,t,rfl,rfl⟩
  ·rcases Ya7 hb with⟨j,u,rfl,e⟩ | ⟨y,u,rfl,e⟩
   ·injection e with e1 _;rw[e1]
   ·exact nomatch e
  ·rcases Ya7 hb with⟨j,u,rfl,e⟩ | ⟨y,u,rfl,e⟩
   ·exact nomatch e
   ·injection e with e1 _;rw[e1]
 byValue:=fun k v h=>by
  rcases Ya7 h with⟨i,t,rfl,rfl⟩ | ⟨x,t,rfl,rfl⟩<;>rfl
 pyHash:=fun hv h=>by
  rcases Ya7 hv with⟨i,t,rfl,rfl⟩ | ⟨x,t,rfl,rfl⟩
  ·exact wpAny_pyHash_int h
  ·exact wpAny_pyHash_str h
 eqBool:=fun hu hv h=>by
  rcases Ya7 hu with⟨i,t,rfl,rfl⟩ | ⟨x,t,rfl,rfl⟩
  ·rcases Ya7 hv with⟨j,u,rfl,rfl⟩ | ⟨y,u,rfl,rfl⟩
   ·rw[y2i]at h;exact wpAny_eqBool_int h
   ·rw[y2k]at h;exact SeqAt.EqAt.int_str i t y u _ _ _ _ h
  ·rcases Ya7 hv with⟨j,u,rfl,rfl⟩ | ⟨y,u,rfl,rfl⟩
   ·rw[y2l]at h;exact SeqAt.EqAt.str_int x t j u _ _ _ _ h
   ·rw[y2j]at h;exact wpAny_eqBool_str h
 «strs»:=fun k x t v h=>by
  rcases Ya7 h with⟨i,u,rfl,e⟩ | ⟨y,u,rfl,e⟩
  ·exact nomatch e
  ·injection e with e1 _
   subst e1
   cases v<;>rfl
theorem Yqq(prog:Program)(w:World)(i:Int)(t:Tok):(Yao prog w).is (.inl i) (.int i t)=true:=Yue i t
theorem Yqr(prog:Program)(w:World)(x:Str)(t:Tok):(Yao prog w).is (.inr x) (.str x t)=true:=Yuf x t
end L2
namespace L2
open PySem PySem.Spec PyProof.Rows
inductive V where
 | non | bl (b:Bool) | int (i:Int) | str (x:Str) | byt (b:Array UInt8) | flt (b:UInt64) | ref (a:Addr) | ty (n:String)
 deriving DecidableEq
noncomputable def RelV:V→Value→Prop
 | .non,u=>u=Value.none
 | .bl b,u=>u=Value.bool b
 | .int i,u=>∃t,u=Value.int i t
 | .str x,u=>∃t,u=Value.str x t
 | .byt b,u=>∃t,u=Value.bytes b t
 | .flt b,u=>∃t,u=Value.float b t
 | .ref a,u=>u=Value.ref a
 | .ty n,u=>u=Value.type n
noncomputable abbrev Vals:List V→List Value→Prop:=Paired RelV
theorem Vals.length{xs:List V}{us:List Value}(r:Vals xs us):xs.length=us.length:=Paired.length r
theorem Vals.get:∀{xs:List V} {us:List Value} {i:Nat} {x:V},Vals xs us→xs[i]?=some x→∃u,us[i]?=some u∧RelV x u
 | _,_,_,_,.nil,e=>by simp at e
 | _,_,0,_,.cons r _,e=>by simp at e;subst e;exact⟨_,rfl,r⟩
 | _,_,i+1,x,.cons _ t,e=>by
   obtain⟨u,h1,h2⟩:=Vals.get (i:=i) (x:=x) t (by simpa using e)
   exact⟨u,by simpa using h1,h2⟩
theorem Vals.append:∀{xs ys:List V} {us ws:List Value},Vals xs us→Vals ys ws→Vals (xs++ys) (us++ws)
 | _,_,_,_,.nil,s=>s
 | _,_,_,_,.cons r t,s=>.cons r (Vals.append t s)
theorem Vals.take:∀{xs:List V} {us:List Value} (n:Nat),Vals xs us→Vals (xs.take n) (us.take n)
 | _,_,0,_=>.nil
 | _,_,_+1,.nil=>.nil
 | _,_,n+1,.cons r t=>.cons r (Vals.take n t)
theorem Vals.drop:∀{xs:List V} {us:List Value} (n:Nat),Vals xs us→Vals (xs.drop n) (us.drop n)
 | _,_,0,r=>r
 | _,_,_+1,.nil=>.nil
 | _,_,n+1,.cons _ t=>Vals.drop n t
noncomputable def RelO:Option V→Option Value→Prop
 | some v,some u=>RelV v u
 | none,none=>True
 | _,_=>False
noncomputable def KV{κ:Type}:List (κ × V)→List (κ × Value)→Prop:=Paired fun(p:κ × V) (q:κ × Value)=>p.1=q.1∧RelV p.2 q.2
noncomputable def kV:Key→V
 | .inl i=>.int i
 | .inr x=>.str x
inductive HO where
 | lst (xs:List V)
 | tup (xs:List V)
 | dK (kvs:List (Key × V)) | dT (kvs:List (List Key × V))
 | set (S:Int→Bool) (n:Nat)
 | ins (C dx:Addr) (fs:List (Str × V))
 | own (x:Addr)
 | xd (fs:List (Str × V))
 | met (f x:Addr)
 | rng (lo hi:Int)
 | frz (o:Obj) (u:HO)
 | tbl (ps:Array Value)
 | ext (φ:Heap→Prop)
noncomputable abbrev Hp:=Addr→Option HO
noncomputable def upd(H:Hp)(a:Addr)(o:HO):Hp:=fun b=>if b=a then some o else H b
theorem y0{H:Hp}{a:Addr}{o:HO}:upd H a o a=some o:=by unfold upd;rw[if_pos rfl]
theorem y4{H:Hp}{a b:Addr}{o:HO}(h:b≠a):upd H a o b=H b:=by unfold upd;rw[if_neg h]
theorem y5u{H:Hp}{a b:Addr}{o u:HO}(h:H a=some o)(h':H b=some u)(d:o≠u):a≠b:=by
 intro e;subst e;rw[h]at h';exact d (Option.some.inj h')
theorem y3{H:Hp}{a b:Addr}{o:HO}(h:H a=some o)(h':H b=none):a≠b:=by
 intro e;subst e;rw[h]at h';cases h'
section
variable (P:Program) (w:World)
noncomputable def ObjOk(H:Hp)(h:Heap)(a:Addr):HO→Prop
 | .lst xs=>xs.length≤sizeLine∧∃(its:List Value) (n:Nat),Vals xs its∧h.get? a=some { cls:=.type "list",data:=.seq its.toArray n }
 | .tup xs=>xs.length≤sizeLine∧∃its:List Value,Vals xs its∧IsTup h a its.toArray
 | .dK kvs=>kvs.length≤sizeLine∧(a==sysModules)=false∧∃vs,KV kvs vs∧h.DictOf (Yao P w) a vs
 | .dT kvs=>kvs.length≤sizeLine∧(a==sysModules)=false∧∃xs:List (List Key × Addr × Value),
  Paired (fun(p:List Key × V) (q:List Key × Addr × Value)=>p.1=q.1∧H q.2.1=some (.tup (p.1.map kV))∧RelV p.2 q.2.2) kvs xs∧
  ∃o es ep,h.get? a=some o∧o.ExactDict∧o.data=.dict es ep∧es.toList=xs.map (entryOfKey (tupleKind (Yao P w)))∧(xs.map (·.1)).Nodup
 | .set S n=>h.SetOf (intKind P w) a S n
 | .ins C dx fs=>H dx=some (.own a)∧fs.length≤1000∧dx≠a∧h.get? a=some (W.instObj C dx)∧
  ∃mA,h.Ns1 dx mA∧(∀f,RelO (fs.lookup f) (mA f))∧PySem.Within mA (fs.map (·.1))
 | .own _=>∃o,h.get? a=some o
 | .xd fs=>∃mA,h.Ns1 a mA∧∀f,RelO (fs.lookup f) (mA f)
 | .rng lo hi=>∃t u v,h.get? a=some { cls:=.type "range",data:=.fields #[.int lo t,.int hi u,.int 1 v] }
 | .frz o u=>h.get? a=some o∧ObjOk H h a u
 | .tbl ps=>h.get? a=some { cls:=.none,data:=.fields ps }
 | .met f x=>h.get? a=some (W.methodObj (.ref f) (.ref x))
 | .ext φ=>φ h∧(∃o,h.get? a=some o)∧∀h1 h2:Heap,φ h1→(∀o,h1.get? a=some o→h2.get? a=some o)→φ h2
def HOk(H:Hp)(h:Heap):Prop:=∀a o,H a=some o→ObjOk P w H h a o
end
section
variable {P:Program} {w:World} {H H':Hp} {h h':Heap} {a:Addr} {o:HO}
theorem ObjOk.lt(x:ObjOk P w H h a o):a < h.objs.size:=by
 cases o with
 | lst xs=>obtain⟨_,_,_,_,e⟩:=x;exact qk e
 | tup xs=>obtain⟨_,_,_,p⟩:=x;exact p.lt
 | dK kvs=>obtain⟨_,_,_,_,o,_,_,e,_⟩:=x;exact qk e
 | dT kvs=>obtain⟨_,_,_,_,o,_,_,e,_⟩:=x;exact qk e
 | set S n=>obtain⟨o,_,_,_,e,_⟩:=x;exact qk e
 | ins C dx fs=>obtain⟨_,_,_,e,_⟩:=x;exact qk e
 | own y=>obtain⟨_,e⟩:=x;exact qk e
 | xd fs=>obtain⟨_,⟨_,_,_,e,_⟩,_⟩:=x;exact qk e
 | rng lo hi=>obtain⟨_,_,_,e⟩:=x;exact qk e
 | frz ob u=>obtain⟨e,_⟩:=x;exact qk e
 | tbl ps=>exact qk (show h.get? a=some _ from x)
 | met f y=>exact qk (show h.get? a=some _ from x)
 | ext φ=>obtain⟨_,⟨_,e⟩,_⟩:=x;exact qk e
theorem Paired.mapP{α β:Type}{F G:α→β→Prop}:∀{l₁:List α} {l₂:List β},Paired F l₁ l₂→(∀a b,F a b→G a b)→Paired G l₁ l₂
 | _,_,.nil,_=>.nil
 | _,_,.cons r t,f=>.cons (f _ _ r) (Paired.mapP t f)
theorem ObjOk.stay(x:ObjOk P w H h a o)(k:∀b u,(b=a∨H b=some (.own a))→h.get? b=some u→h'.get? b=some u)
 (ho:∀b,H b=some (.own a)→H' b=some (.own a)) (ht:∀b xs,H b=some (.tup xs)→H' b=some (.tup xs)):ObjOk P w H' h' a o:=by
 induction o with
 | lst xs=>obtain⟨z,its,n,r,e⟩:=x;exact⟨z,its,n,r,k _ _ (.inl rfl) e⟩
 | tup xs=>obtain⟨z,its,r,ob,e,c⟩:=x;exact⟨z,its,r,ob,k _ _ (.inl rfl) e,c⟩
 | dK kvs=>obtain⟨z,y,vs,r,ob,es,ep,e,c⟩:=x;exact⟨z,y,vs,r,ob,es,ep,k _ _ (.inl rfl) e,c⟩
 | dT kvs=>
   obtain⟨z,y,xs,r,ob,es,ep,e,c⟩:=x
   exact⟨z,y,xs,Paired.mapP r fun p q z=>⟨z.1,ht _ _ z.2.1,z.2.2⟩,ob,es,ep,k _ _ (.inl rfl) e,c⟩
 | set S n=>obtain⟨ob,es,ep,t,e,c⟩:=x;exact⟨ob,es,ep,t,k _ _ (.inl rfl) e,c⟩
 | ins C dx fs=>
   obtain⟨d,z,ne,e,mA,⟨od,es,ep,e2,c⟩,r⟩:=x
   exact⟨ho _ d,z,ne,k _ _ (.inl rfl) e,mA,⟨od,es,ep,k _ _ (.inr d) e2,c⟩,r⟩
 | own y=>obtain⟨ob,e⟩:=x;exact⟨ob,k _ _ (.inl rfl) e⟩
 | xd fs=>obtain⟨mA,⟨od,es,ep,e,c⟩,r⟩:=x;exact⟨mA,⟨od,es,ep,k _ _ (.inl rfl) e,c⟩,r⟩
 | rng lo hi=>obtain⟨t,u,v,e⟩:=x;exact⟨t,u,v,k _ _ (.inl rfl) e⟩
 | frz ob u ih=>obtain⟨e,q⟩:=x;exact⟨k _ _ (.inl rfl) e,ih q⟩
 | tbl ps=>
   have e:h.get? a=some { cls:=.none,data:=.fields ps }:=x
   show h'.get? a=some { cls:=.none,data:=.fields ps }
   exact k a _ (.inl rfl) e
 | met f y=>
   have e:h.get? a=some (W.methodObj (.ref f) (.ref y)):=x
   show h'.get? a=some (W.methodObj (.ref f) (.ref y))
   exact k a _ (.inl rfl) e
 | ext φ=>obtain⟨p,⟨o,e⟩,st⟩:=x;exact⟨st _ _ p fun o q=>k _ _ (.inl rfl) q,⟨o,k _ _ (.inl rfl) e⟩,st⟩
theorem HOk.lt(x:HOk P w H h)(e:H a=some o):a < h.objs.size:=(x a o e).lt
theorem HOk.fresh(x:HOk P w H h)(e:h.objs.size≤a):H a=none:=by
 cases q:H a with
 | none=>rfl
 | some u=>exact absurd (Qh (x.lt q) e) (Qi _)
theorem HOk.kept(x:HOk P w H h)(k:∀b u,h.get? b=some u→h'.get? b=some u):HOk P w H h':=fun a o e=>
 (x a o e).stay (fun b u _ q=>k b u q) (fun _ q=>q) fun _ _ q=>q
theorem HOk.laid(x:HOk P w H h)(k:∀b u,h.get? b=some u→h'.get? b=some u)(hp:h.objs.size≤a)(new:ObjOk P w (upd H a o) h' a o):HOk P w (upd H a o) h':=fun b u e=>by
 have hn:=x.fresh hp
 by_cases hb:b=a
 ·subst hb;rw[y0]at e;cases e;exact new
 ·rw[y4 hb]at e
  exact(x b u e).stay (fun c v _ q=>k c v q) (fun c q=>by rw[y4 (y3 q hn)];exact q) fun c xs q=>by rw[y4 (y3 q hn)];exact q
end
def Rd(H:Hp)(a:Addr)(u:HO):Prop:=H a=some u∨∃o,H a=some (.frz o u)
theorem Rd.ok{P:Program}{w:World}{H:Hp}{h:Heap}{a:Addr}{u:HO}(r:Rd H a u)(x:HOk P w H h):ObjOk P w H h a u:=by
 rcases r with r | ⟨o,r⟩
 ·exact x a u r
 ·obtain⟨_,q⟩:=x a _ r
  exact q
noncomputable def Mut:Option HO→Prop
 | some (.lst _)=>True
 | some (.dK _)=>True
 | some (.dT _)=>True
 | some (.set _ _)=>True
 | some (.ins _ _ _)=>True
 | some (.ext _)=>True
 | _=>False
section
variable {P:Program} {w:World} {H:Hp} {h h':Heap} {x e:Addr} {o':HO}
theorem HOk.write(ok:HOk P w H h)(mu:Mut (H x))(he:e=x∨H e=some (.own x))(k:∀b u,b≠e→h.get? b=some u→h'.get? b=some u)(heo:∃u,h'.get? e=some u)
 (new:ObjOk P w (upd H x o') h' x o'):HOk P w (upd H x o') h':=fun b u q=>by
 have nown:∀c y,H c=some (.own y)→c≠x:=fun c y r z=>by subst z;rw[r]at mu;exact mu
 have ntup:∀c xs,H c=some (.tup xs)→c≠x:=fun c xs r z=>by subst z;rw[r]at mu;exact mu
 by_cases hb:b=x
 ·subst hb;rw[y0]at q;cases q;exact new
 ·rw[y4 hb]at q
  by_cases hbe:b=e
  ·have q':H b=some (.own x):=by
    rcases he with z | z
    ·exact absurd (hbe.trans z) hb
    ·rw[hbe];exact z
   rw[q]at q';cases q'
   obtain⟨v,hv⟩:=heo
   exact⟨v,by rw[hbe];exact hv⟩
  ·refine(ok b u q).stay (fun c v hc r=>k c v ?_ r) (fun c r=>by rw[y4 (nown c b r)];exact r) fun c xs r=>by rw[y4 (ntup c xs r)];exact r
   rcases hc with rfl | hc
   ·exact hbe
   ·rintro rfl
    rcases he with z | z
    ·exact nown c b hc z
    ·rw[hc]at z;cases z;exact hb rfl
end
structure Un(fs ex:List Addr)(H H':Hp)(h h':Heap):Prop where
 keep:∀b o,h.get? b=some o→H b=none→b∉fs→b∉ex→h'.get? b=some o
 slot:∀b o,h.get? b=some o→H b=none→b∈fs→b∉ex→∃sl,h'.get? b=some { o with slots:=sl }
 free:∀b o,h.get? b=some o→H b=none→b∉ex→H' b=none
 there:∀b o,h.get? b=some o→b∉ex→∃o',h'.get? b=some o'
 tups:∀b xs,H b=some (.tup xs)→H' b=some (.tup xs)
 frzs:∀b o u,H b=some (.frz o u)→H' b=some (.frz o u)
 tbls:∀b ps,H b=some (.tbl ps)→∃more,H' b=some (.tbl (ps++more))
section
variable {fs fs' ex ex':List Addr} {H H1 H2:Hp} {h h1 h2 h':Heap} {a x e:Addr} {o:HO}
theorem Un.any(u:Un fs ex H H1 h h1){b:Addr}{ob:Obj}(q:h.get? b=some ob)(n:H b=none)(hx:b∉ex):∃sl,h1.get? b=some { ob with slots:=sl }:=by
 by_cases hb:b∈fs
 ·exact u.slot b ob q n hb hx
 ·exact⟨ob.slots,u.keep b ob q n hb hx⟩
theorem Un.kept(k:∀b u,h.get? b=some u→h'.get? b=some u):Un fs ex H H h h':=
 ⟨fun b ob q _ _ _=>k b ob q,fun b ob q _ _ _=>⟨ob.slots,k b ob q⟩,fun _ _ _ n _=>n,fun b ob q _=>⟨ob,k b ob q⟩,fun _ _ q=>q,fun _ _ _ q=>q,fun _ ps q=>⟨#[],by rw[q];simp⟩⟩
theorem Un.refl:Un fs ex H H h h:=Un.kept fun _ _ q=>q
theorem Un.laid(k:∀b u,h.get? b=some u→h'.get? b=some u)(hp:h.objs.size≤a)(hn:H a=none):Un fs ex H (upd H a o) h h' where
 keep:=fun b u q _ _ _=>k b u q
 slot:=fun b u q _ _ _=>⟨u.slots,k b u q⟩
 free:=fun b u q n _=>by rw[y4 (ql (Qh (qk q) hp))];exact n
 there:=fun b u q _=>⟨u,k b u q⟩
 tups:=fun b xs q=>by rw[y4 (y3 q hn)];exact q
 frzs:=fun b u xs q=>by rw[y4 (y3 q hn)];exact q
 tbls:=fun b ps q=>⟨#[],by rw[y4 (y3 q hn),q];simp⟩
theorem Un.write(mu:Mut (H x))(he:e=x∨H e=some (.own x))(k:∀b u,b≠e→h.get? b=some u→h'.get? b=some u)(heo:∃u,h'.get? e=some u):Un fs ex H (upd H x o) h h':=by
 have hx:∀b,H b=none→b≠x:=fun b n z=>by subst z;rw[n]at mu;exact mu
 have hb:∀b,H b=none→b≠e:=fun b n z=>by
  subst z
  rcases he with r | r
  ·exact hx b n r
  ·rw[n]at r;cases r
 have hm:∀b u,H b=some u→¬Mut (some u)→b≠x:=fun b u q nm z=>by subst z;rw[q]at mu;exact nm mu
 refine⟨fun b u q n _ _=>k b u (hb b n) q,fun b u q n _ _=>⟨u.slots,k b u (hb b n) q⟩,fun b u q n _=>by rw[y4 (hx b n)];exact n,fun b u q _=>?_,
  fun b xs q=>by rw[y4 (hm b _ q fun z=>z)];exact q,fun b u xs q=>by rw[y4 (hm b _ q fun z=>z)];exact q,fun b ps q=>⟨#[],by rw[y4 (hm b _ q fun z=>z),q];simp⟩⟩
 by_cases hbe:b=e
 ·subst hbe;exact heo
 ·exact⟨u,k b u hbe q⟩
end
noncomputable def trk(h:Heap)(H:Hp):List Addr:=(List.range h.objs.size).filter fun a=>(H a).isSome
noncomputable def hidT(h:Heap)(H:Hp):Heap:=W.hideAll h (trk h H)
theorem Yug(h:Heap)(H:Hp):(hidT h H).objs.size=h.objs.size:=W.hideAll_size _ _
theorem Yxg{h:Heap}{H:Hp}{b:Addr}{o:Obj}(e:h.get? b=some o)(n:H b=none):(hidT h H).get? b=some o:=
 W.hideAll_get _ e fun hm=>by
  have q:(H b).isSome=true:=(Qb hm).2
  rw[n]at q;simp at q
theorem Yzv{h:Heap}{H:Hp}{b:Addr}{o:Obj}(e:(hidT h H).get? b=some o):h.get? b=some o∧H b=none:=by
 have e':h.get? b=some o:=W.of_hideAll (trk h H) e
 refine⟨e',?_⟩
 cases q:H b with
 | none=>rfl
 | some x=>
   have hm:b∈trk h H:=List.mem_filter.mpr ⟨List.mem_range.mpr (qk e'),by simp[q]⟩
   have z:(hidT h H).get? b=none:=W.hideAll_none (trk h H) hm
   rw[z]at e;cases e
end L2
namespace L2
open PySem PySem.Spec PyProof.Rows
structure Mod(K:W.Frag)(mg:Str→Option Value)(base:Heap):Prop where
 kin:K.In base
 glob:base.Ns mainGlobals mg
 blt:∃mb,base.Ns builtinsNs mb∧∀x:Str,x≠"__name__"→mb x=bootBuiltins x
 nolimit:base.NoLimit
structure Cx where
 prog:Program
 w:World
 K:W.Frag
 mg:Str→Option Value
 base:Heap
 A:Around
 N:List Str
 s₀:Shared
 H₀:Hp
 env:Env
 outer:List Env
 stack:List Env
 ex:List Addr
 fn:Str→Bool
 calm:Bool
 pn:List (Addr × Obj)
 xe:Value→Shared→Prop
noncomputable def frs(l:List Env):List Addr:=l.filterMap (·.frame)
noncomputable abbrev Cx.fs(X:Cx):List Addr:=frs X.outer
def Vis(sc:Scope)(x:Str):Prop:=sc.names.lookup x=some .local∨sc.names.lookup x=some .cell∨sc.names.lookup x=some .free
def Loc(sc:Scope)(x:Str):Prop:=sc.names.lookup x=some .local∨sc.names.lookup x=some .cell
def Look(env:Env)(h:Heap)(m:Str→Option Value)(x:Str)(u:Value):Prop:=
 (env.kindOf x=some .local∧m x=some u)∨((env.kindOf x=some .cell∨env.kindOf x=some .free)∧∃c,env.cells.lookup x=some c∧h.IsCell c (some u))
structure Cx.Ok(X:Cx):Prop where
 mod:Mod X.K X.mg X.base
 kind:X.env.scope.kind=.function
 glob:X.env.globals=mainGlobals
 blt:X.env.builtins=builtinsNs
 above:X.s₀.heap.objs.size≤X.env.locals
 inj:∀x y c,X.env.cells.lookup x=some c→X.env.cells.lookup y=some c→x=y
 has:∀x,(X.env.kindOf x=some .cell∨X.env.kindOf x=some .free)→∃c,X.env.cells.lookup x=some c
 cab:∀x c,X.fn x=true→X.env.cells.lookup x=some c→X.s₀.heap.objs.size≤c
 hd:X.calm=true→X.A.handled=none
 frames:X.A.frames=some X.stack
 stk:X.stack=X.outer∨(X.stack=X.env::X.outer∧X.env.frame=some X.env.locals)
 exf:∀b∈X.ex,b≠X.env.locals∧∀x c,X.env.cells.lookup x=some c→c≠b
 bs:∀b o,X.base.get? b=some o→X.s₀.heap.get? b=some o∧X.H₀ b=none
 bsz:X.base.objs.size≤X.s₀.heap.objs.size
 noex:∀b o,X.base.get? b=some o→b∉X.ex
 exfs:∀b∈X.ex,b∉X.fs
 funs:X.s₀.heap.FunFrames X.base X.outer
 frf:∀b∈X.fs,X.H₀ b=none
structure Inv(X:Cx)(pins:List (Addr × Obj))(σ:List (Option V))(H:Hp)(s:Shared):Prop where
 ok:X.Ok
 os:s.os=X.s₀.os
 bare:AllBare s.gens
 base:Un X.fs X.ex X.H₀ H X.s₀.heap s.heap
 loc:∃m,s.heap.Ns X.env.locals m∧∀(i:Nat) (x:Str) (v:V),X.N[i]?=some x→σ[i]?=some (some v)→Vis X.env.scope x→∃u,RelV v u∧Look X.env s.heap m x u
 cell:∀x c,X.env.cells.lookup x=some c→∃v,s.heap.IsCell c v
 free:H X.env.locals=none
 freeC:∀x c,X.env.cells.lookup x=some c→H c=none
 pin:∀p∈X.pn++pins,s.heap.get? p.1=some p.2∧H p.1=none∧p.1≠X.env.locals∧p.1∉X.fs∧∀v,p.2.data≠.cell v
 hok:HOk X.prog X.w H s.heap
 len:σ.length=X.N.length
section
variable {X:Cx} {pins:List (Addr × Obj)} {σ:List (Option V)} {H H':Hp} {s:Shared} {h':Heap}
theorem Cx.Ok.nofr(ok:X.Ok){b:Addr}{o:Obj}(e:X.base.get? b=some o):b∉X.fs:=fun hb=>by
 have:=(ok.funs.mem hb).1
 rw[e]at this;cases this
theorem Inv.bs(I:Inv X pins σ H s):∀b o,X.base.get? b=some o→s.heap.get? b=some o∧H b=none:=fun b o e=>
 ⟨I.base.keep b o (I.ok.bs b o e).1 (I.ok.bs b o e).2 (I.ok.nofr e) (I.ok.noex b o e),I.base.free b o (I.ok.bs b o e).1 (I.ok.bs b o e).2 (I.ok.noex b o e)⟩
theorem Inv.bk(I:Inv X pins σ H s):∀b o,X.base.get? b=some o→s.heap.get? b=some o:=fun b o e=>(I.bs b o e).1
theorem Inv.mod(I:Inv X pins σ H s):Mod X.K X.mg X.base:=I.ok.mod
theorem Inv.kIn(I:Inv X pins σ H s):X.K.In s.heap:=I.ok.mod.kin.keeps I.bk
theorem Inv.lt(I:Inv X pins σ H s):X.env.locals < s.heap.objs.size:=let ⟨_,hn,_⟩:=I.loc;hn.lt
theorem Inv.sz(I:Inv X pins σ H s):X.s₀.heap.objs.size≤s.heap.objs.size:=Qf I.ok.above (Nat.le_of_lt I.lt)
theorem Inv.nofs(I:Inv X pins σ H s){a:Addr}(h:s.heap.objs.size≤a):a∉X.fs:=fun hb=>by
 obtain⟨_,o,ho,_⟩:=I.ok.funs.mem hb
 exact absurd (Qh (qk ho) (Qf I.sz h)) (Qi _)
theorem Inv.cne(I:Inv X pins σ H s):∀x c,X.env.cells.lookup x=some c→c≠X.env.locals:=fun x c e z=>by
 obtain⟨v,o,ho,hd⟩:=I.cell x c e
 obtain⟨m,⟨o',es,ep,ho',hd',_⟩,_⟩:=I.loc
 rw[z,ho']at ho;cases ho;rw[hd']at hd;cases hd
theorem Inv.funs(I:Inv X pins σ H s):s.heap.FunFrames X.base X.outer:=by
 have all:∀(l:List Env),(∀b∈frs l,b∈X.fs)→X.s₀.heap.FunFrames X.base l→s.heap.FunFrames X.base l:=by
  intro l
  induction l with
  | nil=>intro _ _;trivial
  | cons env r ih=>
    intro hs hl
    obtain⟨hk,⟨L,o,hf,hn,ho,hd⟩,hr⟩:=hl
    have hL:L∈X.fs:=hs L (by unfold frs;rw[List.filterMap_cons,hf];exact qg)
    obtain⟨sl,e⟩:=I.base.slot L o ho (I.ok.frf L hL) hL fun z=>I.ok.exfs L z hL
    exact⟨hk,⟨L,_,hf,hn,e,hd⟩,ih (fun b hb=>hs b (by unfold frs;rw[List.filterMap_cons,hf];exact qf _ hb)) hr⟩
 exact all X.outer (fun _ hb=>hb) I.ok.funs
theorem Inv.stack(I:Inv X pins σ H s):s.heap.FunFrames X.base X.stack:=by
 rcases I.ok.stk with e | ⟨e,hf⟩
 ·rw[e];exact I.funs
 ·rw[e]
  obtain⟨m,hn,_⟩:=I.loc
  refine .cons (by rw[I.ok.kind];decide) hf hn ?_ I.funs
  exact Heap.get?_none_of_le (Qf I.ok.bsz I.ok.above)
theorem Inv.stkSub(I:Inv X pins σ H s):∀b∈frs X.stack,b∈X.env.locals::X.fs:=fun b hb=>by
 rcases I.ok.stk with e | ⟨e,hf⟩
 ·rw[e]at hb;exact qf _ hb
 ·rw[e]at hb
  unfold frs at hb
  rw[List.filterMap_cons,hf]at hb
  exact hb
theorem Inv.stkFree(I:Inv X pins σ H s):∀b∈frs X.stack,H b=none:=fun b hb=>by
 rcases qr (I.stkSub b hb)with e | hb
 ·rw[e];exact I.free
 ·obtain⟨_,o,ho,_⟩:=I.ok.funs.mem hb
  exact I.base.free b o ho (I.ok.frf b hb) fun z=>I.ok.exfs b z hb
theorem Inv.step{g':Array GenState}{t':Nat}{d':Drawn}{ch:List Addr}(I:Inv X pins σ H s)
 (hch:∀b∈ch,(b∈X.ex∨X.s₀.heap.objs.size≤b)∧b≠X.env.locals∧(∀x c,X.env.cells.lookup x=some c→c≠b)∧∀p∈X.pn++pins,p.1≠b)
 (keep:∀b o,b≠X.env.locals→b∉X.fs→b∉ch→s.heap.get? b=some o→H b=none→h'.get? b=some o)
 (slot:∀b o,b≠X.env.locals→b∈X.fs→b∉ch→s.heap.get? b=some o→H b=none→∃sl,h'.get? b=some { o with slots:=sl }) (free:∀b o,b∉ch→s.heap.get? b=some o→H b=none→H' b=none)
 (there:∀b o,b∉ch→s.heap.get? b=some o→∃o',h'.get? b=some o')
 (tups:∀b xs,H b=some (.tup xs)→H' b=some (.tup xs)) (frzs:∀b o u,H b=some (.frz o u)→H' b=some (.frz o u)) (tbls:∀b ps,H b=some (.tbl ps)→∃more,H' b=some (.tbl (ps++more)))
 (ns:∀m,s.heap.Ns X.env.locals m→h'.Ns X.env.locals m) (hok:HOk X.prog X.w H' h') (hg:AllBare g') :
 Inv X pins σ H' { s with heap:=h',gens:=g',drawn:=d',toks:=t' }:=by
 have neL:∀b o,X.s₀.heap.get? b=some o→b≠X.env.locals:=fun b o e=>ql (Qh (qk e) I.ok.above)
 have neC:∀b o,X.s₀.heap.get? b=some o→b∉X.ex→b∉ch:=fun b o e hx hb=>by
  rcases(hch b hb).1 with z | z
  ·exact hx z
  ·exact absurd (Qh (qk e) z) (Qi _)
 have cellK:∀x c,X.env.cells.lookup x=some c→∀v,s.heap.IsCell c v→h'.IsCell c v:=fun x c e v hx_=>by
  obtain⟨o,ho,hd⟩:=hx_
  have nch:c∉ch:=fun z=>(hch c z).2.2.1 x c e rfl
  by_cases hc:c∈X.fs
  ·obtain⟨sl,q⟩:=slot c o (I.cne x c e) hc nch ho (I.freeC x c e)
   exact⟨_,q,hd⟩
  ·exact⟨o,keep c o (I.cne x c e) hc nch ho (I.freeC x c e),hd⟩
 refine⟨I.ok,I.os,hg,⟨fun b o e n hb hx=>?_,fun b o e n hb hx=>?_,fun b o e n hx=>?_,fun b o e hx=>?_,fun b xs e=>tups b xs (I.base.tups b xs e),fun b o xs e=>frzs b o xs (I.base.frzs b o xs e),fun b ps e=>?_⟩,?_,fun x c e=>?_,?_,fun x c e=>?_,fun p hp=>?_,hok,I.len⟩
 ·exact keep b o (neL b o e) hb (neC b o e hx) (I.base.keep b o e n hb hx) (I.base.free b o e n hx)
 ·obtain⟨sl,e1⟩:=I.base.slot b o e n hb hx
  obtain⟨sl',e2⟩:=slot b _ (neL b o e) hb (neC b o e hx) e1 (I.base.free b o e n hx)
  exact⟨sl',e2⟩
 ·obtain⟨o',e1⟩:=I.base.there b o e hx
  exact free b o' (neC b o e hx) e1 (I.base.free b o e n hx)
 ·obtain⟨o',e1⟩:=I.base.there b o e hx
  exact there b o' (neC b o e hx) e1
 ·obtain⟨m1,e1⟩:=I.base.tbls b ps e
  obtain⟨m2,e2⟩:=tbls b _ e1
  exact⟨m1++m2,by rw[e2,Array.append_assoc]⟩
 ·obtain⟨m,hn,hl⟩:=I.loc
  refine⟨m,ns m hn,fun i x v e1 e2 e3=>?_⟩
  obtain⟨u,r,l⟩:=hl i x v e1 e2 e3
  refine⟨u,r,?_⟩
  rcases l with l | ⟨k,c,e,z⟩
  ·exact .inl l
  ·exact .inr ⟨k,c,e,cellK x c e _ z⟩
 ·obtain⟨v,z⟩:=I.cell x c e
  exact⟨v,cellK x c e v z⟩
 ·obtain⟨m,⟨o,_,_,ho,_⟩,_⟩:=I.loc
  exact free _ o (fun z=>(hch _ z).2.1 rfl) ho I.free
 ·obtain⟨v,o,ho,hd⟩:=I.cell x c e
  exact free c o (fun z=>(hch c z).2.2.1 x c e rfl) ho (I.freeC x c e)
 ·obtain⟨e,n,ne,nf,d⟩:=I.pin p hp
  have nch:p.1∉ch:=fun z=>(hch p.1 z).2.2.2 p hp rfl
  exact⟨keep p.1 p.2 ne nf nch e n,free p.1 p.2 nch e n,ne,nf,d⟩
theorem Inv.un{t':Nat}(I:Inv X pins σ H s)(u:Un X.fs [] H H' s.heap h')(hok:HOk X.prog X.w H' h'):Inv X pins σ H' { s with heap:=h',toks:=t' }:=by
 obtain⟨m,⟨o,es,ep,ho,r⟩,_⟩:=id I.loc
 obtain⟨sl,hL⟩:=u.any ho I.free (by simp)
 exact I.step (g':=s.gens) (d':=s.drawn) (ch:=[]) (fun _ z=>nomatch z) (fun b o _ hb _ e n=>u.keep b o e n hb (by simp)) (fun b o _ hb _ e n=>u.slot b o e n hb (by simp)) (fun b o _ e n=>u.free b o e n (by simp)) (fun b o _ e=>u.there b o e (by simp)) u.tups u.frzs u.tbls (fun m' hm=>by
  obtain⟨o',es',ep',ho',r'⟩:=hm
  rw[ho]at ho';cases ho'
  exact⟨_,es',ep',hL,r'⟩) hok I.bare
theorem Inv.call{g':Array GenState}{t':Nat}{d':Drawn}{ch:List Addr}(I:Inv X pins σ H s)(u:Un (frs X.stack) ch H H' s.heap h')(hok:HOk X.prog X.w H' h')(hg:AllBare g')
 (hch:∀b∈ch,(b∈X.ex∨X.s₀.heap.objs.size≤b)∧b≠X.env.locals∧(∀x c,X.env.cells.lookup x=some c→c≠b)∧∀p∈X.pn++pins,p.1≠b) :
 Inv X pins σ H' { s with heap:=h',gens:=g',drawn:=d',toks:=t' }:=by
 obtain⟨m,⟨o,es,ep,ho,r⟩,_⟩:=id I.loc
 obtain⟨sl,hL⟩:=u.any ho I.free fun z=>(hch _ z).2.1 rfl
 exact I.step (ch:=ch) hch (fun b o hL hb hc e n=>u.keep b o e n (fun z=>(qr (I.stkSub b z)).elim hL hb) hc) (fun b o _ _ hc e n=>u.any e n hc) (fun b o hc e n=>u.free b o e n hc) (fun b o hc e=>u.there b o e hc) u.tups u.frzs u.tbls (fun m' hm=>by
  obtain⟨o',es',ep',ho',r'⟩:=hm
  rw[ho]at ho';cases ho'
  exact⟨_,es',ep',hL,r'⟩) hok hg
theorem Inv.turned{t':Nat}{it:Addr}(I:Inv X pins σ H s)(k:∀b o,b≠it→s.heap.get? b=some o→h'.get? b=some o)(hn:H it=none)(hL:it≠X.env.locals)
 (h1:it∈X.ex∨X.s₀.heap.objs.size≤it) (h2:∀x c,X.env.cells.lookup x=some c→c≠it) (h3:∀p∈X.pn++pins,p.1≠it):Inv X pins σ H { s with heap:=h',toks:=t' }:=by
 have nit:∀b u,H b=some u→b≠it:=fun b u e z=>by rw[z,hn]at e;cases e
 refine I.step (g':=s.gens) (d':=s.drawn) (ch:=[it]) (fun b hb=>?_) (fun b o _ _ hc e _=>k b o (fun z=>hc (by simp[z])) e) (fun b o _ _ hc e _=>⟨o.slots,k b o (fun z=>hc (by simp[z])) e⟩) (fun _ _ _ _ n=>n)
  (fun b o hc e=>⟨o,k b o (fun z=>hc (by simp[z])) e⟩) (fun _ _ e=>e) (fun _ _ _ e=>e) (fun b ps e=>⟨#[],by rw[e];simp⟩) (fun m hm=>?_) (fun b u e=>?_) I.bare
 ·have e:b=it:=by simpa using hb
  subst e
  exact⟨h1,hL,h2,h3⟩
 ·obtain⟨o,es,ep,ho,r⟩:=hm
  exact⟨o,es,ep,k _ o (Ne.symm hL) ho,r⟩
 ·refine(I.hok b u e).stay (fun c v hc q=>k c v ?_ q) (fun _ q=>q) fun _ _ q=>q
  rcases hc with z | z
  ·rw[z];exact nit b u e
  ·exact nit c _ z
theorem Inv.tok(I:Inv X pins σ H s)(t:Nat):Inv X pins σ H { s with toks:=t }:=I.un (h':=s.heap) (t':=t) Un.refl I.hok
theorem Inv.kept{t':Nat}(I:Inv X pins σ H s)(k:∀b u,s.heap.get? b=some u→h'.get? b=some u):Inv X pins σ H { s with heap:=h',toks:=t' }:=I.un (Un.kept k) (I.hok.kept k)
theorem Inv.laid{a:Addr}{o:HO}{t':Nat}(I:Inv X pins σ H s)(k:∀b u,s.heap.get? b=some u→h'.get? b=some u)(hp:s.heap.objs.size≤a)(new:ObjOk X.prog X.w (upd H a o) h' a o) :
 Inv X pins σ (upd H a o) { s with heap:=h',toks:=t' }:=I.un (Un.laid k hp (I.hok.fresh hp)) (I.hok.laid k hp new)
theorem Inv.write{x e:Addr}{o:HO}{t':Nat}(I:Inv X pins σ H s)(mu:Mut (H x))(he:e=x∨H e=some (.own x))(k:∀b u,b≠e→s.heap.get? b=some u→h'.get? b=some u)(heo:∃u,h'.get? e=some u)
 (new:ObjOk X.prog X.w (upd H x o) h' x o):Inv X pins σ (upd H x o) { s with heap:=h',toks:=t' }:=I.un (Un.write mu he k heo) (I.hok.write mu he k heo new)
theorem Inv.pins_of{pins':List (Addr × Obj)}(I:Inv X pins σ H s)(h:∀p∈pins',s.heap.get? p.1=some p.2∧H p.1=none∧p.1≠X.env.locals∧p.1∉X.fs∧∀v,p.2.data≠.cell v):Inv X pins' σ H s:=
 ⟨I.ok,I.os,I.bare,I.base,I.loc,I.cell,I.free,I.freeC,fun p hp=>(qu hp).elim (fun z=>I.pin p (List.mem_append_left _ z)) (h p),I.hok,I.len⟩
theorem Yr4{N:List Str}(hN:N.Nodup){i j:Nat}{x:Str}(a:N[i]?=some x)(b:N[j]?=some x):i=j:=by
 obtain⟨h1,e1⟩:=qm a
 obtain⟨h2,e2⟩:=qm b
 exact(List.getElem_inj hN).mp (e1.trans e2.symm)
theorem Yom{M:Model}{A:Around}{E:Value→Shared→Prop}{i:Nat}{x:Str}{v:V}{u:Value}{Q:Unit→Shared→Prop}(I:Inv X pins σ H s)(hN:X.N.Nodup)(hi:X.N[i]?=some x)(hx:Loc X.env.scope x)(r:RelV v u)
 (h:∀s',Inv X pins (σ.set i (some v)) H s'→(∃a,Heap.SameBut a s.heap s'.heap∧(a=X.env.locals∨X.env.cells.lookup x=some a))→Q () s') (hf:X.fn x=true∨X.env.scope.names.lookup x=some .local:=by first | exact .inl rfl | exact .inr rfl | assumption):wpAny M A (storeName X.env x u) Q E s:=by
 obtain⟨m,hn,hl⟩:=id I.loc
 have hcls:(X.env.scope.kind==.class||(X.env.scope.kind==.module&&X.env.locals != X.env.globals))=false:=by rw[I.ok.kind];rfl
 have hiσ:i < σ.length:=by rw[I.len];exact(qm hi).1
 have cne:=I.cne
 have tracked:∀{a:Addr} {h':Heap},(∃o,s.heap.get? a=some o∧H a=none)→Heap.SameBut a s.heap h'→HOk X.prog X.w H h':=fun {a h'} ha hs b ob e=>by
  obtain⟨_,_,hfree⟩:=ha
  refine(I.hok b ob e).stay (fun c w' hc q=>(hs.2 c ?_).trans q) (fun _ q=>q) fun _ _ q=>q
  rintro rfl
  rcases hc with rfl | hc
  ·rw[hfree]at e;cases e
  ·rw[hfree]at hc;cases hc
 rcases hx with hk | hk
 ·refine wpAny_storeName_local hk hn (fun h' hn' hs=>?_) hcls
  obtain⟨oL,_,_,hoL,_⟩:=id hn
  refine h _ ⟨I.ok,I.os,I.bare,⟨fun b o e n hb hx=>?_,fun b o e n hb hx=>?_,I.base.free,fun b o e hx=>?_,I.base.tups,I.base.frzs,I.base.tbls⟩,⟨_,hn',fun j y v' e1 e2 e3=>?_⟩,fun y c e=>?_,I.free,I.freeC,fun p hp=>?_,tracked ⟨oL,hoL,I.free⟩ hs,by simpa using I.len⟩ ⟨_,hs,.inl rfl⟩
  ·exact(hs.2 b (ql (Qh (qk e) I.ok.above))).trans (I.base.keep b o e n hb hx)
  ·obtain⟨sl,e1⟩:=I.base.slot b o e n hb hx
   exact⟨sl,(hs.2 b (ql (Qh (qk e) I.ok.above))).trans e1⟩
  ·obtain⟨o',e1⟩:=I.base.there b o e hx
   exact⟨o',(hs.2 b (ql (Qh (qk e) I.ok.above))).trans e1⟩
  ·by_cases hj:j=i
   ·subst hj
    rw[hi]at e1;cases e1
    rw[Qo hiσ]at e2
    cases e2
    exact⟨u,r,.inl ⟨hk,by simp⟩⟩
   ·rw[Qe (Ne.symm hj)]at e2
    obtain⟨u',r',q⟩:=hl j y v' e1 e2 e3
    refine⟨u',r',?_⟩
    rcases q with⟨k,e⟩ | ⟨k,c,e,z⟩
    ·refine .inl ⟨k,?_⟩
     have:y≠x:=fun e=>hj (Yr4 hN e1 (e ▸ hi))
     simp[this,e]
    ·exact .inr ⟨k,c,e,z.sameBut hs (cne y c e)⟩
  ·obtain⟨w',z⟩:=I.cell y c e
   exact⟨w',z.sameBut hs (cne y c e)⟩
  ·obtain⟨e,n,ne,nf,d⟩:=I.pin p hp
   exact⟨(hs.2 p.1 ne).trans e,n,ne,nf,d⟩
 ·have hfn:X.fn x=true:=by
   rcases hf with z | z
   ·exact z
   ·rw[z]at hk;cases hk
  obtain⟨c,hc⟩:=I.ok.has x (.inl hk)
  obtain⟨w',z⟩:=I.cell x c hc
  refine wpAny_storeName_cell I.ok.kind hk hc z (fun h' hc' hs=>?_)
  obtain⟨oc,hoc,hocd⟩:=id z
  refine h { s with heap:=h' } ⟨I.ok,I.os,I.bare,⟨fun b o e n hb hx=>?_,fun b o e n hb hx=>?_,I.base.free,fun b o e hx=>?_,I.base.tups,I.base.frzs,I.base.tbls⟩,⟨m,hn.sameBut hs (Ne.symm (cne x c hc)),fun j y v' e1 e2 e3=>?_⟩,fun y c' e=>?_,I.free,I.freeC,fun p hp=>?_,tracked ⟨oc,hoc,I.freeC x c hc⟩ hs,by simpa using I.len⟩ ⟨c,hs,.inr hc⟩
  ·exact(hs.2 b (ql (Qh (qk e) (I.ok.cab x c hfn hc)))).trans (I.base.keep b o e n hb hx)
  ·obtain⟨sl,e1⟩:=I.base.slot b o e n hb hx
   exact⟨sl,(hs.2 b (ql (Qh (qk e) (I.ok.cab x c hfn hc)))).trans e1⟩
  ·obtain⟨o',e1⟩:=I.base.there b o e hx
   exact⟨o',(hs.2 b (ql (Qh (qk e) (I.ok.cab x c hfn hc)))).trans e1⟩
  ·by_cases hj:j=i
   ·subst hj
    rw[hi]at e1;cases e1
    rw[Qo hiσ]at e2
    cases e2
    exact⟨u,r,.inr ⟨.inl hk,c,hc,hc'⟩⟩
   ·rw[Qe (Ne.symm hj)]at e2
    obtain⟨u',r',q⟩:=hl j y v' e1 e2 e3
    refine⟨u',r',?_⟩
    rcases q with q | ⟨k,c',e,z'⟩
    ·exact .inl q
    ·refine .inr ⟨k,c',e,z'.sameBut hs ?_⟩
     rintro rfl
     exact hj (Yr4 hN e1 (I.ok.inj _ _ _ e hc ▸ hi))
  ·by_cases hcc:c'=c
   ·subst hcc;exact⟨_,hc'⟩
   ·obtain⟨w2,z2⟩:=I.cell y c' e
    exact⟨w2,z2.sameBut hs hcc⟩
  ·obtain⟨e,n,ne,nf,d⟩:=I.pin p hp
   refine⟨(hs.2 p.1 ?_).trans e,n,ne,nf,d⟩
   intro q
   rw[q,hoc]at e
   have q':oc=p.2:=Option.some.inj e
   exact d w' (by rw[←q'];exact hocd)
theorem Yr5{M:Model}{A:Around}{E:Value→Shared→Prop}{i:Nat}{x:Str}{v:V}{u:Value}{Q:Unit→Shared→Prop}(I:Inv X pins σ H s)(hN:X.N.Nodup)(hi:X.N[i]?=some x)(hx:Loc X.env.scope x)(r:RelV v u)
 (h:∀s',Inv X pins (σ.set i (some v)) H s'→Q () s') (hf:X.fn x=true∨X.env.scope.names.lookup x=some .local:=by first | exact .inl rfl | exact .inr rfl | assumption):wpAny M A (storeName X.env x u) Q E s:=
 Yom I hN hi hx r (fun s' I' _=>h s' I') hf
theorem Inv.call'{s':Shared}{ch:List Addr}(I:Inv X pins σ H s)(ho:s'.os=s.os)(u:Un (frs X.stack) ch H H' s.heap s'.heap)(hok:HOk X.prog X.w H' s'.heap)(hg:AllBare s'.gens)
 (hch:∀b∈ch,(b∈X.ex∨X.s₀.heap.objs.size≤b)∧b≠X.env.locals∧(∀x c,X.env.cells.lookup x=some c→c≠b)∧∀p∈X.pn++pins,p.1≠b):Inv X pins σ H' s':=by
 obtain⟨h',g',d',t',o'⟩:=s'
 have e:o'=s.os:=ho
 subst e
 exact I.call (g':=g') (t':=t') (d':=d') u hok hg hch
end
noncomputable abbrev XK:=Value→Option Addr→Hp→Prop
noncomputable abbrev St:=List (Option V)
noncomputable abbrev VK:=V→Hp→Prop
noncomputable abbrev TE:=St→Hp→VK→Prop
noncomputable abbrev TT:=St→Hp→(Bool→Hp→Prop)→Prop
noncomputable abbrev TA:=St→Hp→(List V→Hp→Prop)→Prop
structure Ends where
 nx:St→Hp→Prop
 rt:VK
 bk:St→Hp→Prop:=fun _ _=>False
 ct:St→Hp→Prop:=fun _ _=>False
noncomputable abbrev TS:=Ends→St→Hp→Prop
def EP(X:Cx)(pins:List (Addr × Obj))(σ:St)(Q:VK)(u:Value)(s':Shared):Prop:=∃v H',Inv X pins σ H' s'∧RelV v u∧Q v H'
def TP(X:Cx)(pins:List (Addr × Obj))(σ:St)(Q:Bool→Hp→Prop)(b:Bool)(s':Shared):Prop:=∃H',Inv X pins σ H' s'∧Q b H'
def AP(X:Cx)(pins:List (Addr × Obj))(σ:St)(Q:List V→Hp→Prop)(us:List Value)(s':Shared):Prop:=∃vs H',Inv X pins σ H' s'∧Vals vs us∧Q vs H'
def SP(X:Cx)(pins:List (Addr × Obj))(D:Ends)(f:Flow)(s':Shared):Prop:=
 match f with
 | .next=>∃σ' H',Inv X pins σ' H' s'∧D.nx σ' H'
 | .brk=>∃σ' H',Inv X pins σ' H' s'∧D.bk σ' H'
 | .cont=>∃σ' H',Inv X pins σ' H' s'∧D.ct σ' H'
 | .ret u=>∃v σ' H',Inv X pins σ' H' s'∧RelV v u∧D.rt v H'
def PE(X:Cx)(e:Expr)(t:TE):Prop:=
 ∀(pins:List (Addr × Obj)) (s:Shared) (σ:St) (H:Hp) (Q:VK),Inv X pins σ H s→t σ H Q→wpAny (model X.prog X.w) X.A (eval e X.env) (EP X pins σ Q) X.xe s
def PT(X:Cx)(e:Expr)(t:TT):Prop:=
 ∀(pins:List (Addr × Obj)) (s:Shared) (σ:St) (H:Hp) (Q:Bool→Hp→Prop),Inv X pins σ H s→t σ H Q→wpAny (model X.prog X.w) X.A (isTrue e X.env (eval e X.env)) (TP X pins σ Q) X.xe s
def PW(X:Cx)(e:Expr)(t:TT):Prop:=
 ∀(whole:Sem Value) (pins:List (Addr × Obj)) (s:Shared) (σ:St) (H:Hp) (Q:Bool→Hp→Prop),Inv X pins σ H s→t σ H Q→wpAny (model X.prog X.w) X.A (isTrue e X.env whole) (TP X pins σ Q) X.xe s
theorem PW.pt{X:Cx}{e:Expr}{t:TT}(h:PW X e t):PT X e t:=h _
def PA(X:Cx)(es:List Expr)(t:TA):Prop:=
 ∀(pos:Pos) (pins:List (Addr × Obj)) (s:Shared) (σ:St) (H:Hp) (Q:List V→Hp→Prop),Inv X pins σ H s→t σ H Q→wpAny (model X.prog X.w) X.A (spliced (backTo pos (starEach es X.env))) (AP X pins σ Q) X.xe s
def PS(X:Cx)(st:Stmt)(t:TS):Prop:=
 ∀(pins:List (Addr × Obj)) (s:Shared) (σ:St) (H:Hp) (D:Ends),Inv X pins σ H s→t D σ H→wpAny (model X.prog X.w) X.A (exec st X.env) (SP X pins D) X.xe s
def PSs(X:Cx)(st:List Stmt)(t:TS):Prop:=
 ∀(pins:List (Addr × Obj)) (s:Shared) (σ:St) (H:Hp) (D:Ends),Inv X pins σ H s→t D σ H→wpAny (model X.prog X.w) X.A (execs st X.env) (SP X pins D) X.xe s
theorem thn{α:Type}{t:Sem α}{Q Q':α→Shared→Prop}{M:Model}{A:Around}{E:Value→Shared→Prop}{s:Shared}(h:wpAny M A t Q E s)(hQ:∀a s,Q a s→Q' a s):wpAny M A t Q' E s:=wpAny_mono h hQ fun _ _ x=>x
end L2
namespace L2
open PySem PySem.Spec PyProof.Rows
section
variable {X:Cx}
noncomputable def tVar(i:Nat):TE:=fun σ H Q=>∃v,σ[i]?=some (some v)∧Q v H
noncomputable def tC(v:V):TE:=fun _ H Q=>Q v H
theorem Yr6{i:Nat}{x:Str}{pos:Pos}(hN:X.N[i]?=some x)(hv:Vis X.env.scope x)(hd:(x==("__debug__":Str))=false:=by decide)(hcd:(x==("__classdict__":Str))=false:=by decide):PE X (.Name x pos) (tVar i):=by
 intro pins s σ H Q I h
 obtain⟨v,e,h⟩:=h
 obtain⟨m,hn,hl⟩:=I.loc
 obtain⟨u,r,l⟩:=hl i x v hN e hv
 have fin:EP X pins σ Q u s:=⟨v,H,I,r,h⟩
 rcases l with⟨hk,hm⟩ | ⟨hk,c,hc,hcell⟩
 ·exact wpAny_Name (wpAny_loadName_local I.ok.kind hk hn hm fin) hd
 ·rcases hk with hk | hk
  ·exact wpAny_Name (wpAny_loadName_cell I.ok.kind hk hc hcell fin) hd
  ·exact wpAny_Name (wpAny_loadName_free I.ok.kind hk hc hcell fin hcd) hd
theorem y2m{i j pos}:PE X (.Constant (.int i) j pos) (tC (.int i)):=fun _ _ _ H _ I h=>wpAny_Constant_int ⟨.int i,H,I.tok _,⟨_,rfl⟩,h⟩
theorem y5v{b j pos}:PE X (.Constant (.bool b) j pos) (tC (.bl b)):=fun _ _ _ H _ I h=>Constant_bool ⟨.bl b,H,I,rfl,h⟩
theorem y2n{j pos}:PE X (.Constant .none j pos) (tC .non):=fun _ _ _ H _ I h=>Constant_none ⟨.non,H,I,rfl,h⟩
theorem y2o{x j pos}:PE X (.Constant (.str x) j pos) (tC (.str x)):=fun _ _ _ H _ I h=>Calls.Constant_str ⟨.str x,H,I.tok _,⟨_,rfl⟩,h⟩
def Gl(X:Cx)(x:Str):Prop:=X.env.kindOf x=some .globalImplicit
theorem Yzw{E:Value→Shared→Prop}{pins:List (Addr × Obj)}{s:Shared}{σ:St}{H:Hp}{x:Str}{u:Value}{pos:Pos}{Q:Value→Shared→Prop}(I:Inv X pins σ H s)(hg:Gl X x)(hm:X.mg x=some u)(h:Q u s)
 (hd:(x==("__debug__":Str))=false:=by decide):wpAny (model X.prog X.w) X.A (eval (.Name x pos) X.env) Q E s:=
 Calls.Name_function_global I.ok.kind hg (Calls.loadGlobal_global (by rw[I.ok.glob];exact I.mod.glob.keeps I.bk) hm h) hd
theorem Ymc{E:Value→Shared→Prop}{pins:List (Addr × Obj)}{s:Shared}{σ:St}{H:Hp}{x:Str}{u:Value}{pos:Pos}{Q:Value→Shared→Prop}(I:Inv X pins σ H s)(hg:Gl X x)(hm:X.mg x=none)(hv:bootBuiltins x=some u)(h:Q u s)
 (hn:x≠"__name__":=by decide) (hd:(x==("__debug__":Str))=false:=by decide):wpAny (model X.prog X.w) X.A (eval (.Name x pos) X.env) Q E s:=by
 obtain⟨mb,h1,h2⟩:=I.mod.blt
 exact Calls.Name_function_global I.ok.kind hg (Calls.loadGlobal_builtin (by rw[I.ok.glob];exact I.mod.glob.keeps I.bk) hm (by rw[I.ok.blt];exact h1.keeps I.bk) ((h2 x hn).trans hv) h) hd
theorem Yzx{x:Str}{v:V}{u:Value}{pos:Pos}(hg:Gl X x)(hm:X.mg x=none)(hv:bootBuiltins x=some u)(r:RelV v u)(hn:x≠"__name__":=by decide)(hd:(x==("__debug__":Str))=false:=by decide):PE X (.Name x pos) (tC v):=
 fun _ _ _ H _ I h=>Ymc I hg hm hv ⟨v,H,I,r,h⟩ hn hd
variable {a b:Expr} {ta tb:TE} {pos:Pos}
variable {tA tB':TT} {rest:List Expr}
noncomputable def tAnd(t u:TT):TT:=fun σ H Q=>t σ H fun c H1=>if c=true then u σ H1 Q else Q false H1
noncomputable def tOr(t u:TT):TT:=fun σ H Q=>t σ H fun c H1=>if c=true then Q true H1 else u σ H1 Q
noncomputable def tNot(t:TT):TT:=fun σ H Q=>t σ H fun c H1=>Q (!c) H1
theorem Yzy(ha:PT X a tA):PW X (.BoolOp .And [a] pos) tA:=by
 intro wh pins s σ H Q I h
 refine isTrue_and (thn (ha pins s σ H Q I h) fun c s1 e=>?_)
 cases c with
 | true=>exact isTrue_and_nil e
 | false=>exact e
theorem y2p(ha:PT X a tA):PW X (.BoolOp .Or [a] pos) tA:=by
 intro wh pins s σ H Q I h
 refine isTrue_or (thn (ha pins s σ H Q I h) fun c s1 e=>?_)
 cases c with
 | false=>exact isTrue_or_nil e
 | true=>exact e
theorem y2q(ha:PT X a tA)(hb:PW X (.BoolOp .And (b::rest) pos) tB'):PW X (.BoolOp .And (a::b::rest) pos) (tAnd tA tB'):=by
 intro wh pins s σ H Q I h
 refine isTrue_and (thn (ha pins s σ H _ I h) fun c s1 hx_=>?_)
 obtain⟨H1,I1,q1⟩:=hx_
 cases c with
 | true=>exact hb wh pins s1 σ H1 Q I1 q1
 | false=>exact⟨H1,I1,q1⟩
theorem y5w(ha:PT X a tA)(hb:PW X (.BoolOp .Or (b::rest) pos) tB'):PW X (.BoolOp .Or (a::b::rest) pos) (tOr tA tB'):=by
 intro wh pins s σ H Q I h
 refine isTrue_or (thn (ha pins s σ H _ I h) fun c s1 hx_=>?_)
 obtain⟨H1,I1,q1⟩:=hx_
 cases c with
 | true=>exact⟨H1,I1,q1⟩
 | false=>exact hb wh pins s1 σ H1 Q I1 q1
theorem y2r(ha:PT X a tA):PT X (.UnaryOp .Not a pos) (tNot tA):=by
 intro pins s σ H Q I h
 exact isTrue_not (ha pins s σ H (fun c H1=>Q (!c) H1) I h)
noncomputable def y5x(ta tb:TE):TE:=fun σ H Q=>ta σ H fun x H1=>∃c,x=.bl c∧if c=true then tb σ H1 Q else Q (.bl false) H1
noncomputable def tOrV(ta tb:TE):TE:=fun σ H Q=>ta σ H fun x H1=>∃c,x=.bl c∧if c=true then Q (.bl true) H1 else tb σ H1 Q
theorem Yy4{op}{t:TE}(h:PE X a t):PE X (.BoolOp op [a] pos) t:=fun pins s σ H Q I hw=>BoolOp_one (h pins s σ H Q I hw)
theorem y2s(ha:PE X a ta)(hb:PE X (.BoolOp .And (b::rest) pos) tb):PE X (.BoolOp .And (a::b::rest) pos) (y5x ta tb):=by
 intro pins s σ H Q I h
 refine BoolOp_and (thn (ha pins s σ H _ I h) fun v s1 hx_=>?_)
 obtain⟨x,H1,I1,r1,q1⟩:=hx_
 obtain⟨c,rfl,q1⟩:=q1
 cases r1
 refine wpAny_truthy_bool ?_
 cases c with
 | true=>exact hb pins s1 σ H1 Q I1 q1
 | false=>exact⟨.bl false,H1,I1,rfl,q1⟩
theorem y5y(ha:PE X a ta)(hb:PE X (.BoolOp .Or (b::rest) pos) tb):PE X (.BoolOp .Or (a::b::rest) pos) (tOrV ta tb):=by
 intro pins s σ H Q I h
 refine BoolOp_or (thn (ha pins s σ H _ I h) fun v s1 hx_=>?_)
 obtain⟨x,H1,I1,r1,q1⟩:=hx_
 obtain⟨c,rfl,q1⟩:=q1
 cases r1
 refine wpAny_truthy_bool ?_
 cases c with
 | false=>exact hb pins s1 σ H1 Q I1 q1
 | true=>exact⟨.bl true,H1,I1,rfl,q1⟩
end
end L2
namespace L2
open PySem PySem.Spec PyProof.Rows
def SqL(K:W.Frag)(H:Hp)(a:Addr)(xs:List V):Prop:=
 Rd H a (.lst xs)∨
  ∃(o:Obj) (its:Array Value) (n:Nat),K.lookup a=some o∧o.cls=.type "list"∧o.dict=none∧o.data=.seq its n∧its.size≤sizeLine∧Vals xs its.toList
def SqT(K:W.Frag)(H:Hp)(a:Addr)(xs:List V):Prop:=
 Rd H a (.tup xs)∨
  ∃(o:Obj) (its:Array Value) (n:Nat),K.lookup a=some o∧o.cls=.type "tuple"∧o.data=.seq its n∧its.size≤sizeLine∧Vals xs its.toList
noncomputable def absV:Value→Option V
 | .none=>some .non
 | .bool b=>some (.bl b)
 | .int i _=>some (.int i)
 | .str x _=>some (.str x)
 | .bytes b _=>some (.byt b)
 | .float b _=>some (.flt b)
 | .ref a=>some (.ref a)
 | .type n=>some (.ty n)
 | _=>none
theorem RelV.abs{x:V}{u:Value}(r:RelV x u):absV u=some x:=by
 cases x with
 | non=>cases r;rfl
 | bl _=>cases r;rfl
 | int _=>obtain⟨t,rfl⟩:=r;rfl
 | str _=>obtain⟨t,rfl⟩:=r;rfl
 | byt _=>obtain⟨t,rfl⟩:=r;rfl
 | flt _=>obtain⟨t,rfl⟩:=r;rfl
 | ref _=>cases r;rfl
 | ty _=>cases r;rfl
theorem RelV.inj{x y:V}{u:Value}(r:RelV x u)(q:RelV y u):x=y:=Option.some.inj (r.abs.symm.trans q.abs)
theorem Vals.inj:∀{xs ys:List V} {us:List Value},Vals xs us→Vals ys us→xs=ys
 :=by
  intro xs ys us h
  induction h generalizing ys with
  | nil=>
    intro h2
    cases h2
    rfl
  | cons r t ih=>
    intro h2
    cases h2 with
    | cons r' t'=>rw[r.inj r',ih t']
section
variable {X:Cx} {pins:List (Addr × Obj)} {σ:St} {H:Hp} {s:Shared} {a:Addr} {xs ys:List V}
theorem SqL.of{K:W.Frag}(h:H a=some (.lst xs)):SqL K H a xs:=.inl (.inl h)
theorem SqT.of{K:W.Frag}(h:H a=some (.tup xs)):SqT K H a xs:=.inl (.inl h)
theorem Inv.list(I:Inv X pins σ H s)(h:SqL X.K H a xs):∃its:List Value,Vals xs its∧PlainL s.heap a its.toArray∧xs.length≤sizeLine:=by
 rcases h with h | ⟨o,its,n,hk,hc,hd,hs,hz,r⟩
 ·obtain⟨z,its,n,r,e⟩:=h.ok I.hok
  exact⟨its,r,⟨_,n,e,rfl,rfl,rfl⟩,z⟩
 ·refine⟨its.toList,r,⟨o,n,I.kIn a o hk,hc,hd,by simpa using hs⟩,?_⟩
  have e:=r.length
  simp only[qi]at e
  lia
theorem Inv.tuple(I:Inv X pins σ H s)(h:SqT X.K H a xs):∃its:List Value,Vals xs its∧IsTup s.heap a its.toArray∧xs.length≤sizeLine:=by
 rcases h with h | ⟨o,its,n,hk,hc,hs,hz,r⟩
 ·obtain⟨z,its,r,p⟩:=h.ok I.hok
  exact⟨its,r,p,z⟩
 ·refine⟨its.toList,r,⟨o,I.kIn a o hk,hc,n,by simpa using hs⟩,?_⟩
  have e:=r.length
  simp only[qi]at e
  lia
theorem Inv.list_inj(I:Inv X pins σ H s)(h:SqL X.K H a xs)(h':SqL X.K H a ys):xs=ys:=by
 obtain⟨its,r,⟨o,n,e,_,_,d⟩,_⟩:=I.list h
 obtain⟨its',r',⟨o',n',e',_,_,d'⟩,_⟩:=I.list h'
 rw[e]at e';cases e'
 rw[d]at d'
 injection d' with d1 _
 have:its=its':=by simpa using congrArg Array.toList d1
 subst this
 exact r.inj r'
theorem Inv.tuple_inj(I:Inv X pins σ H s)(h:SqT X.K H a xs)(h':SqT X.K H a ys):xs=ys:=by
 obtain⟨its,r,⟨o,e,_,n,d⟩,_⟩:=I.tuple h
 obtain⟨its',r',⟨o',e',_,n',d'⟩,_⟩:=I.tuple h'
 rw[e]at e';cases e'
 rw[d]at d'
 injection d' with d1 _
 have:its=its':=by simpa using congrArg Array.toList d1
 subst this
 exact r.inj r'
end
noncomputable abbrev Cx.wish(X:Cx)(E:Value→Shared→Prop):Cx:={ X with xe:=E }
noncomputable abbrev Cx.nox(X:Cx):Cx:=X.wish fun _ _=>False
theorem Cx.Ok.wish{X:Cx}(ok:X.Ok)(E:Value→Shared→Prop):(X.wish E).Ok:=
 ⟨ok.mod,ok.kind,ok.glob,ok.blt,ok.above,ok.inj,ok.has,ok.cab,ok.hd,ok.frames,ok.stk,ok.exf,ok.bs,ok.bsz,ok.noex,ok.exfs,ok.funs,ok.frf⟩
theorem Cx.Ok.unwish{X:Cx}{E:Value→Shared→Prop}(ok:(X.wish E).Ok):X.Ok:=
 ⟨ok.mod,ok.kind,ok.glob,ok.blt,ok.above,ok.inj,ok.has,ok.cab,ok.hd,ok.frames,ok.stk,ok.exf,ok.bs,ok.bsz,ok.noex,ok.exfs,ok.funs,ok.frf⟩
section
variable {X:Cx} {pins:List (Addr × Obj)} {σ:St} {H:Hp} {s:Shared} {E:Value→Shared→Prop}
theorem Inv.wish(I:Inv X pins σ H s)(E:Value→Shared→Prop):Inv (X.wish E) pins σ H s:=⟨I.ok.wish E,I.os,I.bare,I.base,I.loc,I.cell,I.free,I.freeC,I.pin,I.hok,I.len⟩
theorem Inv.unwish(I:Inv (X.wish E) pins σ H s):Inv X pins σ H s:=⟨I.ok.unwish,I.os,I.bare,I.base,I.loc,I.cell,I.free,I.freeC,I.pin,I.hok,I.len⟩
theorem SP.unwish{D:Ends}{f:Flow}{s':Shared}(h:SP (X.wish E) pins D f s'):SP X pins D f s':=by
 cases f with
 | next=>obtain⟨σ',H',I,q⟩:=h;exact⟨σ',H',I.unwish,q⟩
 | brk=>obtain⟨σ',H',I,q⟩:=h;exact⟨σ',H',I.unwish,q⟩
 | cont=>obtain⟨σ',H',I,q⟩:=h;exact⟨σ',H',I.unwish,q⟩
 | ret u=>obtain⟨v,σ',H',I,r,q⟩:=h;exact⟨v,σ',H',I.unwish,r,q⟩
theorem PSs.nox{st:List Stmt}{t:TS}(h:PSs X.nox st t):PSs X st t:=fun pins s σ H D I hw=>
 wpAny_mono (h pins s σ H D (I.wish _) hw) (fun _ _ q=>q.unwish) fun _ _ z=>False.elim z
end
section
variable {X:Cx} {st:Stmt} {rest:List Stmt} {t u:TS} {e:Expr} {te:TE} {pos:Pos}
noncomputable def y5z:TS:=fun D σ H=>D.nx σ H
noncomputable def tSeq(t u:TS):TS:=fun D σ H=>t { D with nx:=u D } σ H
theorem Yzz:PSs X [] y5z:=fun _ _ σ H _ I h=>wpAny_execs_nil ⟨σ,H,I,h⟩
theorem Yxh(h1:PS X st t)(h2:PSs X rest u):PSs X (st::rest) (tSeq t u):=by
 intro pins s σ H D I h
 refine wpAny_execs_cons (thn (h1 pins s σ H { D with nx:=u D } I h) fun f s1 q=>?_)
 cases f with
 | next=>
   obtain⟨σ',H',I',q⟩:=q
   exact h2 pins s1 σ' H' D I' q
 | ret v=>exact q
 | brk=>exact q
 | cont=>exact q
theorem Yz0(h1:PS X st t):PSs X [st] t:=by
 intro pins s σ H D I h
 refine wpAny_execs_cons (thn (h1 pins s σ H D I h) fun f s1 q=>?_)
 cases f with
 | next=>exact wpAny_execs_nil q
 | ret v=>exact q
 | brk=>exact q
 | cont=>exact q
theorem Inv.quiet{pins:List (Addr × Obj)}{σ:St}{H:Hp}{s:Shared}(I:Inv X pins σ H s):interactive X.env=false:=by simp[interactive,I.ok.kind]
noncomputable def y50(te:TE):TS:=fun D σ H=>te σ H fun _ H1=>D.nx σ H1
theorem Yz1(he:PE X e te)(hs:swapsWith e none pos.line X.env=pure false:=by rfl):PS X (.Expr e pos) (y50 te):=by
 intro pins s σ H D I h
 refine wpAny_Expr_any (thn (he pins s σ H _ I h) fun v s1 hx_=>?_) I.quiet hs
 obtain⟨x,H1,I1,r1,q1⟩:=hx_
 exact⟨σ,H1,I1,q1⟩
noncomputable def tRet(te:TE):TS:=fun D σ H=>te σ H D.rt
theorem y2t(he:PE X e te):PS X (.Return (some e) pos) (tRet te):=by
 intro pins s σ H D I h
 refine wpAny_Return_some (thn (he pins s σ H _ I h) fun v s1 hx_=>?_)
 obtain⟨x,H1,I1,r1,q1⟩:=hx_
 exact⟨x,σ,H1,I1,r1,q1⟩
noncomputable def tIfS(c:TT)(t u:TS):TS:=fun D σ H=>c σ H fun b H1=>if b=true then t D σ H1 else u D σ H1
theorem y51{c:Expr}{a b:List Stmt}{tc:TT}(hc:PT X c tc)(ha:PSs X a t)(hb:PSs X b u):PS X (.If c a b pos) (tIfS tc t u):=by
 intro pins s σ H D I h
 refine wpAny_If (thn (hc pins s σ H _ I h) fun d s1 hx_=>?_)
 obtain⟨H1,I1,q1⟩:=hx_
 cases d with
 | true=>exact ha pins s1 σ H1 D I1 q1
 | false=>exact hb pins s1 σ H1 D I1 q1
end
noncomputable abbrev TG:=V→St→Hp→(St→Hp→Prop)→Prop
noncomputable abbrev TGs:=List V→St→Hp→(St→Hp→Prop)→Prop
def PG(X:Cx)(target:Expr)(t:TG):Prop:=
 ∀(pins:List (Addr × Obj)) (s:Shared) (σ:St) (H:Hp) (v:V) (u:Value) (Q:St→Hp→Prop),Inv X pins σ H s→RelV v u→t v σ H Q→
  wpAny (model X.prog X.w) X.A (assign target X.env u) (fun _ s'=>∃σ' H',Inv X pins σ' H' s'∧Q σ' H') X.xe s
def PGs(X:Cx)(ts:List Expr)(t:TGs):Prop:=
 ∀(pins:List (Addr × Obj)) (s:Shared) (σ:St) (H:Hp) (vs:List V) (us:List Value) (Q:St→Hp→Prop),Inv X pins σ H s→Vals vs us→t vs σ H Q→
  wpAny (model X.prog X.w) X.A (assignInOrder ((assignEach ts X.env).map (·.2)) us) (fun _ s'=>∃σ' H',Inv X pins σ' H' s'∧Q σ' H') X.xe s
noncomputable abbrev TSet:=V→V→V→Hp→(Hp→Prop)→Prop
def PSet(X:Cx)(t:TSet):Prop:=
 ∀(pins:List (Addr × Obj)) (s:Shared) (σ:St) (H:Hp) (o i v:V) (ov iv u:Value) (Q:Hp→Prop),Inv X pins σ H s→RelV o ov→RelV i iv→RelV v u→t o i v H Q→
  wpAny (model X.prog X.w) X.A (setItem ov iv u) (fun _ s'=>∃H',Inv X pins σ H' s'∧Q H') X.xe s
section
variable {X:Cx} {pos:Pos}
noncomputable def Ys8(i:Nat):TG:=fun v σ H Q=>Q (σ.set i (some v)) H
theorem Yim{i:Nat}{x:Str}(hN:X.N.Nodup)(hi:X.N[i]?=some x)(hx:Loc X.env.scope x)(hf:X.fn x=true∨X.env.scope.names.lookup x=some .local:=by first | exact .inl rfl | exact .inr rfl | assumption):PG X (.Name x pos) (Ys8 i):=by
 intro pins s σ H v u Q I r h
 exact wpAny_assign_Name (Yr5 I hN hi hx r (fun s' I'=>⟨_,H,I',h⟩) hf)
noncomputable def gNil:TGs:=fun vs σ H Q=>vs=[]∧Q σ H
noncomputable def y52(t:TG)(u:TGs):TGs:=fun vs σ H Q=>∃v r,vs=v::r∧t v σ H fun σ' H'=>u r σ' H' Q
theorem Yuh:PGs X [] gNil:=by
 intro pins s σ H vs us Q I r h
 obtain⟨e,h⟩:=h
 subst e
 cases r
 exact assignInOrder_nil ⟨σ,H,I,h⟩
theorem Yht{e:Expr}{es:List Expr}{t:TG}{u:TGs}(h1:PG X e t)(h2:PGs X es u)
 (hs:(assignEach (e::es) X.env).map (·.2)=assign e X.env::(assignEach es X.env).map (·.2):=by rfl):PGs X (e::es) (y52 t u):=by
 intro pins s σ H vs us Q I r h
 obtain⟨v,vr,e1,h⟩:=h
 subst e1
 cases r with
 | cons r rr=>
   rw[hs]
   refine assignInOrder_cons (thn (h1 pins s σ H _ _ _ I r h) fun _ s1 hx_=>?_)
   obtain⟨σ1,H1,I1,q1⟩:=hx_
   exact h2 pins s1 σ1 H1 _ _ Q I1 rr q1
noncomputable def gTup(K:W.Frag)(n:Nat)(t:TGs):TG:=fun v σ H Q=>∃a xs,v=.ref a∧SqT K H a xs∧xs.length=n∧t xs σ H Q
theorem y2u{es:List Expr}{k:Nat}{t:TGs}{n:Nat}(hc:X.calm=true)(h:PGs X es t)
 (hn:(assignEach es X.env).length=n:=by rfl) (hst:(assignEach es X.env).findIdx? (·.1)=none:=by rfl):PG X (.Tuple es k pos) (gTup X.K n t):=by
 intro pins s σ H v u Q I r hw
 obtain⟨a,xs,e1,hq,hl,hw⟩:=hw
 subst e1
 cases r
 obtain⟨its,rv,ht,hz⟩:=I.tuple hq
 refine assign_Tuple_tuple (I.ok.hd hc) ht (by simp[hn,←hl,rv.length]) hst fun h' hx=>?_
 have I1:Inv X pins σ H { s with heap:=h' }:=I.kept (t':=s.toks) fun b o e=>hx b o (ql (qk e)) e
 exact h pins _ σ H xs _ Q I1 (by simpa using rv) hw
noncomputable def gSub(to ti:TE)(t:TSet):TG:=fun v σ H Q=>to σ H fun o H1=>ti σ H1 fun i H2=>t o i v H2 fun H3=>Q σ H3
theorem y2v{o i:Expr}{to ti:TE}{t:TSet}(ho:PE X o to)(hi:PE X i ti)(hs:PSet X t)
 (ha:∀v,assign (.Subscript o i pos) X.env v=(do
  let ov ←holding [v] (eval o X.env)
  let iv ←holding [v,ov] (eval i X.env)
  standAt pos
  holding [v,ov,iv] (setItem ov iv v)
  release [v,ov,iv] []):=by intro _;rfl):PG X (.Subscript o i pos) (gSub to ti t):=by
 intro pins s σ H v u Q I r h
 rw[ha]
 refine wpAny_bind (wpAny_holding (thn (ho pins s σ H _ I h) fun ov s1 hx_=>?_))
 obtain⟨x,H1,I1,r1,q1⟩:=hx_
 refine wpAny_bind (wpAny_holding (thn (hi pins s1 σ H1 _ I1 q1) fun iv s2 hx_=>?_))
 obtain⟨y,H2,I2,r2,q2⟩:=hx_
 refine wpAny_bind (wpAny_standAt (wpAny_bind (wpAny_holding (thn (hs pins s2 σ H2 x y v ov iv u _ I2 r1 r2 r q2) fun _ s3 hx_=>?_))))
 obtain⟨H3,I3,q3⟩:=hx_
 exact wpAny_release ⟨σ,H3,I3,q3⟩
noncomputable def tAsg(te:TE)(g:TG):TS:=fun D σ H=>te σ H fun x H1=>g x σ H1 D.nx
theorem Yy5{tg e:Expr}{te:TE}{g:TG}(he:PE X e te)(hg:PG X tg g)(hs:swapsWithSole [tg] e pos.line X.env=pure false:=by rfl)(hw:swappedStores [tg] e X.env=pure none:=by rfl)
 (h1:(assignEach [tg] X.env).map (·.2)=[assign tg X.env]:=by rfl):PS X (.Assign [tg] e pos) (tAsg te g):=by
 intro pins s σ H D I h
 refine wpAny_Assign_stores (thn (he pins s σ H _ I h) fun v s1 hx_=>?_) hs hw
 obtain⟨x,H1,I1,r1,q1⟩:=hx_
 rw[h1]
 exact thn (hg pins s1 σ H1 x v _ I1 r1 q1) fun _ s2 q=>q
theorem Yui{i:Nat}{x:Str}{e:Expr}{te:TE}{pos':Pos}(hN:X.N.Nodup)(hi:X.N[i]?=some x)(hx:Loc X.env.scope x)(he:PE X e te)(hs:swapsWith e (some (.Name x pos')) pos.line X.env=pure false:=by rfl)(hf:X.fn x=true∨X.env.scope.names.lookup x=some .local:=by first | exact .inl rfl | exact .inr rfl | assumption) :
 PS X (.Assign [.Name x pos'] e pos) (tAsg te (Ys8 i)):=by
 intro pins s σ H D I h
 refine wpAny_Assign_Name (thn (he pins s σ H _ I h) fun v s1 hx_=>?_) hs
 obtain⟨y,H1,I1,r1,q1⟩:=hx_
 exact Yr5 I1 hN hi hx r1 (fun s2 I2=>⟨_,H1,I2,q1⟩) hf
end
section
variable {X:Cx} {pos:Pos}
noncomputable def y2w(c:TT)(tb:TS):TS:=fun D σ H=>∃W:Nat→St→Hp→Prop,(∃m,W m σ H)∧∀m σ H,W m σ H→
 c σ H fun b H1=>if b=true then ∃N:St→Hp→Prop,(∀σ' H',N σ' H'→∃m',m' < m∧W m' σ' H')∧tb { D with nx:=N,ct:=N,bk:=D.nx } σ H1 else D.nx σ H1
theorem Yxi{c:Expr}{body:List Stmt}{tc:TT}{tb:TS}(hp:PassesOwn (model X.prog X.w) X.A X.env X.xe)(hc:PT X c tc)(hb:PSs X body tb):PS X (.While c body [] pos) (y2w tc tb):=by
 intro pins s σ H D I h
 obtain⟨W,⟨m0,w0⟩,turn⟩:=h
 refine wpAny_While (codeAny_whileLoop (fun n s'=>∃σ' H',Inv X pins σ' H' s'∧W n σ' H') ?_ m0 ⟨σ,H,I,w0⟩)
 rintro n s1 ⟨σ1,H1,I1,w1⟩
 refine wpAny_passesOwn hp (thn (hc pins s1 σ1 H1 _ I1 (turn n σ1 H1 w1)) fun b s2 hx_=>?_)
 obtain⟨H2,I2,q2⟩:=hx_
 cases b with
 | true=>
   obtain⟨N,hN,q2⟩:=q2
   rw[if_pos rfl]
   refine wpAny_passesOwn hp (thn (hb pins s2 σ1 H2 _ I2 q2) fun f s3 q3=>?_)
   cases f with
   | next=>
     obtain⟨σ3,H3,I3,n3⟩:=q3
     obtain⟨m',hm,w3⟩:=hN σ3 H3 n3
     exact⟨m',hm,σ3,H3,I3,w3⟩
   | cont=>
     obtain⟨σ3,H3,I3,n3⟩:=q3
     obtain⟨m',hm,w3⟩:=hN σ3 H3 n3
     exact⟨m',hm,σ3,H3,I3,w3⟩
   | brk=>exact q3
   | ret v=>exact q3
 | false=>
   rw[if_neg qh]
   exact wpAny_execs_nil ⟨σ1,H2,I2,q2⟩
end
structure It where
 go:Nat→Hp→Prop
 yld:Nat→Hp→V→Hp→Prop
 stop:Nat→Hp→Prop
def FpOk(X:Cx)(pins:List (Addr × Obj))(H:Hp)(b:Addr):Prop:=
 H b=none∧b≠X.env.locals∧b∉X.fs∧(b∈X.ex∨X.s₀.heap.objs.size≤b)∧(∀x c,X.env.cells.lookup x=some c→c≠b)∧∀p∈X.pn++pins,p.1≠b
theorem Inv.fpOk{X:Cx}{pins:List (Addr × Obj)}{σ:St}{H H':Hp}{s:Shared}{b:Addr}(I:Inv X pins σ H s)(hb:s.heap.objs.size≤b)(hn:H' b=none):FpOk X pins H' b:=by
 refine⟨hn,Nat.ne_of_gt (Qh I.lt hb),I.nofs hb,.inr (Qf I.sz hb),fun x c e z=>?_,fun p hp z=>?_⟩
 ·obtain⟨v,q⟩:=I.cell x c e
  exact absurd (Qh q.lt (by rw[z];exact hb)) (Qi _)
 ·exact absurd (Qh (qk (I.pin p hp).1) (by rw[z];exact hb)) (Qi _)
structure Turn(P:Program)(w:World)(K:W.Frag)(tg:Expr)(J:It)(fp:List Addr)(it:Addr)(tn:Nat→Heap→Prop):Prop where
 mem:it∈fp
 obj:∀i h,tn i h→∀b∈fp,∃o,h.get? b=some o∧∀v,o.data≠.cell v
 keep:∀i h h',tn i h→(∀b∈fp,∀o,h.get? b=some o→h'.get? b=some o)→tn i h'
 item:∀(X:Cx),X.prog=P→X.w=w→X.K=K→X.calm=true→∀(i:Nat) (pins:List (Addr × Obj)) (s:Shared) (σ:St) (H:Hp) (E:Value→Shared→Prop),Inv X pins σ H s→(∀b∈fp,FpOk X pins H b)→tn i s.heap→J.go i H→
  wpAny (model P w) X.A (pyNext (.ref it)) (fun r s1=>∃u,r=some u∧
   wpAny (model P w) X.A (letOwnedTupleGo tg (.ref it) u) (fun _ s2=>∃x H',Inv X pins σ H' s2∧RelV x u∧J.yld i H x H'∧tn (i+1) s2.heap∧∀b∈fp,H' b=none) E s1) E s
 done:∀(X:Cx),X.prog=P→X.w=w→X.K=K→X.calm=true→∀(i:Nat) (pins:List (Addr × Obj)) (s:Shared) (σ:St) (H:Hp) (E:Value→Shared→Prop),Inv X pins σ H s→(∀b∈fp,FpOk X pins H b)→tn i s.heap→J.stop i H→
  wpAny (model P w) X.A (pyNext (.ref it)) (fun r s1=>r=none∧Inv X pins σ H s1) E s
 self:∀(A:Around) (i:Nat) (s:Shared) (Q:Value→Shared→Prop) (E:Value→Shared→Prop),tn i s.heap→Q (.ref it) s→wpAny (model P w) A (pyIter (.ref it)) Q E s
noncomputable abbrev TI:=St→Hp→(It→Hp→Prop)→Prop
def PIE(X:Cx)(pins:List (Addr × Obj))(σ:St)(tg:Expr)(R:It→Hp→Prop)(itv:Value)(s2:Shared):Prop:=
 ∃(it:Addr) (fp:List Addr) (tn:Nat→Heap→Prop) (J:It) (H':Hp),itv=.ref it∧Inv X pins σ H' s2∧Turn X.prog X.w X.K tg J fp it tn∧tn 0 s2.heap∧(∀b∈fp,FpOk X pins H' b)∧R J H'
def PI(X:Cx)(tg iter:Expr)(wi:TI):Prop:=
 ∀(pins:List (Addr × Obj)) (s:Shared) (σ:St) (H:Hp) (R:It→Hp→Prop),Inv X pins σ H s→wi σ H R→
  wpAny (model X.prog X.w) X.A (eval iter X.env) (fun v s1=>wpAny (model X.prog X.w) X.A (pyIter v) (PIE X pins σ tg R) X.xe s1) X.xe s
theorem Yz2{M:Model}{A:Around}{E:Value→Shared→Prop}{s:Shared}{tg:Expr}{it:Addr}{u:Value}{o:Obj}{n:String}{vs:Array Value}{Q:Unit→Shared→Prop}(ho:s.heap.get? it=some o)(hc:o.cls=.type n)(hd:o.data=.fields vs)
 (hn:["enumerate","zip","dict_itemiterator","dict_reverseitemiterator","odict_iterator","itertools.zip_longest","itertools.pairwise"].contains n=false) (hQ:Q () s):wpAny M A (letOwnedTupleGo tg (.ref it) u) Q E s:=by
 unfold letOwnedTupleGo
 cases tg<;>first
  | exact wpAny_pure hQ
  | (cases u<;>first
   | exact wpAny_pure hQ
   | (refine wpAny_bind (wpAny_load ho ?_)
      rw[hc,hd]
      show wpAny M A (if (["enumerate","zip","dict_itemiterator","dict_reverseitemiterator","odict_iterator","itertools.zip_longest","itertools.pairwise"].contains n&&vs[0]?==some (rawInt _))=true then _ else _) Q E s
      rw[if_neg (by intro h;rw[hn,Bool.false_and]at h;cases h)]
      exact wpAny_pure hQ))
noncomputable def Itl(K:W.Frag)(a:Addr):It:=
 ⟨fun i H=>∃xs x,SqL K H a xs∧xs[i]?=some x,fun i H x H'=>H'=H∧∀xs,SqL K H a xs→xs[i]?=some x,fun i H=>∃xs,SqL K H a xs∧xs.length≤i⟩
noncomputable def Itt(K:W.Frag)(a:Addr):It:=
 ⟨fun i H=>∃xs x,SqT K H a xs∧xs[i]?=some x,fun i H x H'=>H'=H∧∀xs,SqT K H a xs→xs[i]?=some x,fun i H=>∃xs,SqT K H a xs∧xs.length≤i⟩
noncomputable def Itr(lo:Int)(n:Nat):It:=⟨fun i _=>i < n,fun i H x H'=>H'=H∧x=.int (lo+i),fun i _=>n≤i⟩
theorem Yuj{P:Program}{w:World}{K:W.Frag}{tg:Expr}(a it:Addr):Turn P w K tg (Itl K a) [it] it (fun i h=>h.IsListIter it a i) where
 mem:=by simp
 obj:=fun i h st b hb=>by
  have e:b=it:=by simpa using hb
  subst e
  obtain⟨o,e,c,d⟩:=st
  exact⟨o,e,fun v z=>by rw[d]at z;cases z⟩
 keep:=fun i h h' st k=>st.at fun o e=>k it (by simp) o e
 item:=by
  intro X hP hw hK hc i pins s σ H E I hf st hg
  subst hP hw hK
  obtain⟨xs,x,hq,hx⟩:=hg
  obtain⟨its,rv,p,hz⟩:=I.list hq
  obtain⟨u,hu,ru⟩:=rv.get hx
  obtain⟨f0,f1,f2,f3,f4,f5⟩:=hf it (by simp)
  refine wpAny_pyNext_list_item st p.isList (x:=u) (by simpa using hu) fun h' st' sb=>?_
  have I1:Inv X pins σ H { s with heap:=h' }:=I.turned (t':=s.toks) (fun b o hb e=>(sb.2 b hb).trans e) f0 f1 f3 f4 f5
  obtain⟨o,e,c,d⟩:=id st'
  exact⟨u,rfl,Yz2 (s:={ s with heap:=h' }) e c d (by decide) ⟨x,H,I1,ru,⟨rfl,fun ys hy=>by rw[I.list_inj hy hq];exact hx⟩,st',fun b hb=>(hf b hb).1⟩⟩
 done:=by
  intro X hP hw hK hc i pins s σ H E I hf st hg
  subst hP hw hK
  obtain⟨xs,hq,hx⟩:=hg
  obtain⟨its,rv,p,hz⟩:=I.list hq
  obtain⟨f0,f1,f2,f3,f4,f5⟩:=hf it (by simp)
  have hl:=rv.length
  exact wpAny_pyNext_list_end (I.ok.hd hc) st p.isList (by simp;lia) fun h' eb=>⟨rfl,I.turned (t':=s.toks) (fun b o hb e=>eb b o hb e) f0 f1 f3 f4 f5⟩
 self:=fun _ _ _ _ _ st h=>wpAny_pyIter_listiter st h
theorem Ys9{P:Program}{w:World}{K:W.Frag}{tg:Expr}(a it:Addr):Turn P w K tg (Itt K a) [it] it (fun i h=>h.IsTupleIter it a i) where
 mem:=by simp
 obj:=fun i h st b hb=>by
  have e:b=it:=by simpa using hb
  subst e
  obtain⟨o,e,c,d⟩:=st
  exact⟨o,e,fun v z=>by rw[d]at z;cases z⟩
 keep:=fun i h h' st k=>st.at fun o e=>k it (by simp) o e
 item:=by
  intro X hP hw hK hc i pins s σ H E I hf st hg
  subst hP hw hK
  obtain⟨xs,x,hq,hx⟩:=hg
  obtain⟨its,rv,p,hz⟩:=I.tuple hq
  obtain⟨u,hu,ru⟩:=rv.get hx
  obtain⟨f0,f1,f2,f3,f4,f5⟩:=hf it (by simp)
  refine wpAny_pyNext_tuple_item st (show s.heap.IsTuple a its.toArray from p) (x:=u) (by simpa using hu) fun h' st' sb=>?_
  have I1:Inv X pins σ H { s with heap:=h' }:=I.turned (t':=s.toks) (fun b o hb e=>(sb.2 b hb).trans e) f0 f1 f3 f4 f5
  obtain⟨o,e,c,d⟩:=id st'
  exact⟨u,rfl,Yz2 (s:={ s with heap:=h' }) e c d (by decide) ⟨x,H,I1,ru,⟨rfl,fun ys hy=>by rw[I.tuple_inj hy hq];exact hx⟩,st',fun b hb=>(hf b hb).1⟩⟩
 done:=by
  intro X hP hw hK hc i pins s σ H E I hf st hg
  subst hP hw hK
  obtain⟨xs,hq,hx⟩:=hg
  obtain⟨its,rv,p,hz⟩:=I.tuple hq
  obtain⟨f0,f1,f2,f3,f4,f5⟩:=hf it (by simp)
  have hl:=rv.length
  exact wpAny_pyNext_tuple_end (I.ok.hd hc) st (show s.heap.IsTuple a its.toArray from p) (by simp;lia) fun h' eb=>⟨rfl,I.turned (t':=s.toks) (fun b o hb e=>eb b o hb e) f0 f1 f3 f4 f5⟩
 self:=fun _ _ _ _ _ st h=>wpAny_pyIter_tupleiter st h
theorem Yta{P:Program}{w:World}{K:W.Frag}{tg:Expr}(it:Addr)(lo:Int)(n:Nat):Turn P w K tg (Itr lo n) [it] it (fun i h=>IsRangeIter h it (lo+(i:Nat) * 1) ((n:Int) - (i:Nat)) 1) where
 mem:=by simp
 obj:=fun i h st b hb=>by
  have e:b=it:=by simpa using hb
  subst e
  exact⟨_,st,fun v z=>by
   have z':Data.fields _=Data.cell v:=z
   cases z'⟩
 keep:=fun i h h' st k=>k it (by simp) _ st
 item:=by
  intro X hP hw hK hc i pins s σ H E I hf st hg
  subst hP hw hK
  obtain⟨f0,f1,f2,f3,f4,f5⟩:=hf it (by simp)
  have W:=Walks.range (prog:=X.prog) (w:=X.w) (I.ok.hd hc) it lo 1 n
  refine W.item i s _ _ hg st fun v h' tk hv st' kk=>?_
  obtain⟨t,rfl⟩:=hv
  have I1:Inv X pins σ H { s with heap:=h',toks:=tk }:=I.turned (fun b o hb e=>kk b o (by simpa using hb) e) f0 f1 f3 f4 f5
  refine⟨_,rfl,Yz2 (s:={ s with heap:=h',toks:=tk }) (n:="range_iterator") st' rfl rfl (by decide) ⟨.int (lo+i),H,I1,⟨t,?_⟩,⟨rfl,rfl⟩,st',fun b hb=>(hf b hb).1⟩⟩
  rw[Int.mul_one]
 done:=by
  intro X hP hw hK hc i pins s σ H E I hf st hg
  subst hP hw hK
  obtain⟨f0,f1,f2,f3,f4,f5⟩:=hf it (by simp)
  exact wpAny_pyNext_range_end (I.ok.hd hc) st (by have:n≤i:=hg;lia) fun h' eb=>⟨rfl,I.turned (t':=s.toks) (fun b o hb e=>eb b o hb e) f0 f1 f3 f4 f5⟩
 self:=fun _ _ _ _ _ st h=>wpAny_pyIter_rangeiter st h
end L2
namespace L2
open PySem PySem.Spec PyProof.Rows
section
variable {X:Cx} {tg:Expr}
theorem Yr7{pins:List (Addr × Obj)}{σ:St}{H:Hp}{s:Shared}{R:It→Hp→Prop}{E:Value→Shared→Prop}{lo hi:Int}{t u v:Tok}{tk:Nat}(I:Inv X pins σ H s)(h1:-(2 ^ 62)≤lo)(h2:lo < 2 ^ 62)(h3:-(2 ^ 62)≤hi)(h4:hi < 2 ^ 62)
 (q:R (Itr lo (hi - lo).toNat) H):wpAny (model X.prog X.w) X.A (pyIter (.ref s.heap.objs.size)) (PIE X pins σ tg R) E { s with heap:=s.heap.push { cls:=.type "range",data:=.fields #[.int lo t,.int hi u,.int 1 v] },toks:=tk }:=by
 refine wpAny_pyIter_range (IsRange.new ..) (small_one h1 h2 h3 h4) ?_
 have I1:Inv X pins σ H { s with heap:=s.heap.push { cls:=.type "range",data:=.fields #[.int lo t,.int hi u,.int 1 v] },toks:=tk }:=I.kept fun b o e=>qd _ e
 refine⟨(s.heap.push { cls:=.type "range",data:=.fields #[.int lo t,.int hi u,.int 1 v] }).objs.size,[(s.heap.push { cls:=.type "range",data:=.fields #[.int lo t,.int hi u,.int 1 v] }).objs.size],_,_,H,rfl,
  I1.kept (t':=tk) fun b o e=>qd _ e,Yta _ lo (hi - lo).toNat,?_,fun b hb=>?_,q⟩
 ·have e1:lo+((0:Nat):Int) * 1=lo:=by simp
  have e2:(((hi - lo).toNat:Nat):Int) - ((0:Nat):Int)=Builtin.Range.rangeSize lo hi 1:=by rw[rangeSize_one];split<;>lia
  show IsRangeIter _ _ (lo+((0:Nat):Int) * 1) ((((hi - lo).toNat:Nat):Int) - ((0:Nat):Int)) 1
  rw[e1,e2]
  exact qo _ rfl
 ·have e:b=(s.heap.push { cls:=.type "range",data:=.fields #[.int lo t,.int hi u,.int 1 v] }).objs.size:=by simpa using hb
  subst e
  exact I1.fpOk (qt _) (I1.hok.fresh (qt _))
noncomputable def y53(ta:TA):TI:=fun σ H R=>ta σ H fun vs H1=>∃j:Int,vs=[.int j]∧-(2 ^ 62)≤j∧j < 2 ^ 62∧R (Itr 0 j.toNat) H1
noncomputable def y54(ta:TA):TI:=fun σ H R=>ta σ H fun vs H1=>∃i j:Int,vs=[.int i,.int j]∧(-(2 ^ 62)≤i∧i < 2 ^ 62∧-(2 ^ 62)≤j∧j < 2 ^ 62)∧R (Itr i (j - i).toNat) H1
theorem Yuk{a:Expr}{ta:TA}{p pos:Pos}(hg:Gl X "range")(hm:X.mg "range"=none)(ha:PA X [a] ta)(hs:starEach [a] X.env=[(false,eval a X.env)]:=by rfl):PI X tg (.Call (.Name "range" p) [a] [] pos) (y53 ta):=by
 intro pins s σ H R I h
 refine Call_ (Ymc I hg hm boot_range (PyProof.Rows.callWith_type1 (thn (ha pos pins s σ H _ I h) fun us s1 hx_=>?_) hs rfl))
 obtain⟨vs,H1,I1,r1,q1⟩:=hx_
 obtain⟨j,e,q1,q2,q⟩:=q1
 subst e
 cases r1 with
 | cons r rr=>
   cases rr
   obtain⟨t,rfl⟩:=r
   exact call_range_1 (Yr7 I1 (by lia) (by lia) q1 q2 (by simpa using q))
theorem Yul{a b:Expr}{ta:TA}{p pos:Pos}(hg:Gl X "range")(hm:X.mg "range"=none)(ha:PA X [a,b] ta)(hs:starEach [a,b] X.env=[(false,eval a X.env),(false,eval b X.env)]:=by rfl)(hs2:starEach [b] X.env=[(false,eval b X.env)]:=by rfl) :
 PI X tg (.Call (.Name "range" p) [a,b] [] pos) (y54 ta):=by
 intro pins s σ H R I h
 refine Call_ (Ymc I hg hm boot_range (PyProof.Rows.callWith_type1 (thn (ha pos pins s σ H _ I h) fun us s1 ⟨vs,H1,I1,r1,q1⟩=>?_) (by rw[hs,hs2]) (by rw[hs2];rfl)))
 obtain⟨i,j,e,⟨q1,q2,q3,q4⟩,q⟩:=q1
 subst e
 cases r1 with
 | cons r rr=>
   cases rr with
   | cons r' rr=>
     cases rr
     obtain⟨t,rfl⟩:=r
     obtain⟨t',rfl⟩:=r'
     exact call_range_2 (Yr7 I1 q1 q2 q3 q4 q)
noncomputable def tFor(wi:TI)(g:TG)(tb:TS):TS:=fun D σ H=>wi σ H fun J H1=>∃W:Nat→Nat→St→Hp→Prop,(∃m,W 0 m σ H1)∧∀i m σ H,W i m σ H→
 (J.stop i H∧D.nx σ H)∨(J.go i H∧∃N:St→Hp→Prop,(∀σ' H',N σ' H'→∃m',m' < m∧W (i+1) m' σ' H')∧∀x H',J.yld i H x H'→g x σ H' fun σ2 H2=>tb { D with nx:=N,ct:=N,bk:=D.nx } σ2 H2)
noncomputable def Yon(fp:List Addr)(h:Heap):List (Addr × Obj):=fp.filterMap fun b=>(h.get? b).map fun o=>(b,o)
theorem Ygk{fp:List Addr}{h:Heap}{b:Addr}{o:Obj}(hb:b∈fp)(e:h.get? b=some o):(b,o)∈Yon fp h:=List.mem_filterMap.mpr ⟨b,hb,by rw[e];rfl⟩
theorem Yum{fp:List Addr}{h:Heap}{p:Addr × Obj}(hp:p∈Yon fp h):p.1∈fp∧h.get? p.1=some p.2:=by
 obtain⟨b,hb,e⟩:=List.mem_filterMap.mp hp
 cases q:h.get? b with
 | none=>rw[q]at e;cases e
 | some o=>
   rw[q]at e
   have e':(b,o)=p:=Option.some.inj e
   subst e'
   exact⟨hb,q⟩
theorem Inv.pinned{pins:List (Addr × Obj)}{σ:St}{H:Hp}{s:Shared}{fp:List Addr}(I:Inv X pins σ H s)(hf:∀b∈fp,FpOk X pins H b)(ho:∀b∈fp,∃o,s.heap.get? b=some o∧∀v,o.data≠.cell v):Inv X (pins++Yon fp s.heap) σ H s:=
 I.pins_of fun p hp=>(qu hp).elim (fun z=>I.pin p (Qp _ z)) fun z=>by
  obtain⟨hb,e⟩:=Yum z
  obtain⟨f0,f1,f2,_⟩:=hf p.1 hb
  obtain⟨o,e',d⟩:=ho p.1 hb
  rw[e]at e';cases e'
  exact⟨e,f0,f1,f2,d⟩
theorem Inv.unpinned{pins pl:List (Addr × Obj)}{σ:St}{H:Hp}{s:Shared}(I:Inv X (pins++pl) σ H s):Inv X pins σ H s:=I.pins_of fun p hp=>I.pin p (Qp _ (List.mem_append_left _ hp))
theorem y2x{iter:Expr}{body:List Stmt}{wi:TI}{g:TG}{tb:TS}{pos:Pos}(hp:PassesOwn (model X.prog X.w) X.A X.env X.xe)(hc:X.calm=true)(hi:PI X tg iter wi)(hg:PG X tg g)(hb:PSs X body tb)
 (hs:∀x,foldedSetIterable iter X.env x=pure x:=by intro _;rfl):PS X (.For tg iter body [] pos) (tFor wi g tb):=by
 intro pins s σ H D I h
 refine wpAny_For (thn (hi pins s σ H _ I h) fun v s1 h1=>thn h1 fun itv s2 h2=>?_) hs
 obtain⟨it,fp,tn,J,H2,e,I2,T,st2,f2,W,⟨m0,w0⟩,turn⟩:=h2
 subst e
 have stat:∀{H':Hp},(∀b∈fp,H' b=none)→∀b∈fp,FpOk X pins H' b:=fun hn b hb=>⟨hn b hb,(f2 b hb).2⟩
 refine codeAny_forLoop_any (fun n s'=>∃i σ' H',Inv X pins σ' H' s'∧tn i s'.heap∧(∀b∈fp,H' b=none)∧W i n σ' H') ?_ m0 ⟨0,σ,H2,I2,st2,fun b hb=>(f2 b hb).1,w0⟩
 rintro n s3 ⟨i,σ3,H3,I3,st3,fr3,w3⟩
 rcases turn i n σ3 H3 w3 with⟨stop,qn⟩ | ⟨go,N,hN,step⟩
 ·refine wpAny_passesOwn hp (thn (T.done X rfl rfl rfl hc i pins s3 σ3 H3 X.xe I3 (stat fr3) st3 stop) fun r s4 hx_=>?_)
  obtain⟨hr,I4⟩:=hx_
  subst hr
  exact wpAny_execs_nil ⟨σ3,H3,I4,qn⟩
 ·refine wpAny_passesOwn hp (thn (T.item X rfl rfl rfl hc i pins s3 σ3 H3 X.xe I3 (stat fr3) st3 go) fun r s4 hx_=>?_)
  obtain⟨u,hr,h4⟩:=hx_
  subst hr
  refine wpAny_passesOwn hp (thn h4 fun _ s5 hx_=>?_)
  obtain⟨x,H5,I5,r5,y5,st5,fr5⟩:=hx_
  have I5':=I5.pinned (stat fr5) (T.obj _ _ st5)
  refine wpAny_passesOwn hp (thn (hg _ s5 σ3 H5 x u _ I5' r5 (step x H5 y5)) fun _ s6 hx_=>?_)
  obtain⟨σ6,H6,I6,q6⟩:=hx_
  refine wpAny_passesOwn hp (thn (hb _ s6 σ6 H6 _ I6 q6) fun f s7 q7=>?_)
  have again:∀{σ7:St} {H7:Hp},Inv X (pins++Yon fp s5.heap) σ7 H7 s7→N σ7 H7→∃m,m < n∧∃i σ' H',Inv X pins σ' H' s7∧tn i s7.heap∧(∀b∈fp,H' b=none)∧W i m σ' H':=fun {σ7 H7} I7 n7=>by
   obtain⟨m',hm,w7⟩:=hN σ7 H7 n7
   refine⟨m',hm,i+1,σ7,H7,I7.unpinned,T.keep _ _ _ st5 fun b hb o e=>(I7.pin (b,o) (Qp _ (Qp _ (Ygk hb e)))).1,fun b hb=>?_,w7⟩
   obtain⟨o,e,d⟩:=T.obj _ _ st5 b hb
   exact(I7.pin (b,o) (Qp _ (Qp _ (Ygk hb e)))).2.1
  cases f with
  | next=>obtain⟨σ7,H7,I7,n7⟩:=q7;exact again I7 n7
  | cont=>obtain⟨σ7,H7,I7,n7⟩:=q7;exact again I7 n7
  | brk=>obtain⟨σ7,H7,I7,q7⟩:=q7;exact⟨σ7,H7,I7.unpinned,q7⟩
  | ret v=>obtain⟨x7,σ7,H7,I7,r7,q7⟩:=q7;exact⟨x7,σ7,H7,I7.unpinned,r7,q7⟩
end
end L2
namespace L2
open PySem PySem.Spec PyProof.Rows
noncomputable abbrev R2:=V→V→Hp→VK→Prop
def OpR(X:Cx)(f:Value→Value→Sem Value)(r:R2):Prop:=
 ∀(pins:List (Addr × Obj)) (s:Shared) (σ:St) (H:Hp) (x y:V) (v u:Value) (Q:VK),Inv X pins σ H s→RelV x v→RelV y u→r x y H Q→
  wpAny (model X.prog X.w) X.A (f v u) (EP X pins σ Q) X.xe s
def UnR(X:Cx)(f:Value→Sem Value)(r:V→Hp→VK→Prop):Prop:=
 ∀(pins:List (Addr × Obj)) (s:Shared) (σ:St) (H:Hp) (x:V) (v:Value) (Q:VK),Inv X pins σ H s→RelV x v→r x H Q→
  wpAny (model X.prog X.w) X.A (f v) (EP X pins σ Q) X.xe s
def Ydx(X:Cx)(f:Value)(r:List V→Hp→VK→Prop):Prop:=
 ∀(pins:List (Addr × Obj)) (s:Shared) (σ:St) (H:Hp) (xs:List V) (us:List Value) (Q:VK),Inv X pins σ H s→Vals xs us→r xs H Q→
  wpAny (model X.prog X.w) X.A (call f us) (EP X pins σ Q) X.xe s
def TruR(X:Cx)(r:V→Hp→(Bool→Hp→Prop)→Prop):Prop:=
 ∀(pins:List (Addr × Obj)) (s:Shared) (σ:St) (H:Hp) (x:V) (v:Value) (Q:Bool→Hp→Prop),Inv X pins σ H s→RelV x v→r x H Q→
  wpAny (model X.prog X.w) X.A (truthy v) (TP X pins σ Q) X.xe s
noncomputable def tOp(r:R2)(ta tb:TE):TE:=fun σ H Q=>ta σ H fun x H1=>tb σ H1 fun y H2=>r x y H2 Q
noncomputable def tUn(r:V→Hp→VK→Prop)(ta:TE):TE:=fun σ H Q=>ta σ H fun x H1=>r x H1 Q
noncomputable def rI(C:Int→Int→Prop)(g:Int→Int→V):R2:=fun x y H Q=>∃i j,x=.int i∧y=.int j∧C i j∧Q (g i j) H
noncomputable def rI0(g:Int→Int→V):R2:=fun x y H Q=>∃i j,x=.int i∧y=.int j∧Q (g i j) H
noncomputable def rU(g:Int→V):V→Hp→VK→Prop:=fun x H Q=>∃i,x=.int i∧Q (g i) H
section
variable {X:Cx} {a b c:Expr} {ta tb tc:TE} {pos:Pos}
theorem binT(ha:PE X a ta)(hb:PE X b tb){pins:List (Addr × Obj)}{s:Shared}{σ:St}{H:Hp}{R:V→V→Hp→Prop}(I:Inv X pins σ H s)
 (h:ta σ H fun x H1=>tb σ H1 fun y H2=>R x y H2) {Q:Value→Shared→Prop} {f:Value→Value→Sem Value}
 (hf:∀v u s2 x y H2,Inv X pins σ H2 s2→RelV x v→RelV y u→R x y H2→wpAny (model X.prog X.w) X.A (f v u) Q X.xe s2) :
 wpAny (model X.prog X.w) X.A (eval a X.env) (fun v s₁=>wpAny (model X.prog X.w) X.A (eval b X.env) (fun u s₂=>wpAny (model X.prog X.w) X.A (f v u) Q X.xe s₂) X.xe s₁) X.xe s:=by
 refine thn (ha pins s σ H _ I h) fun v s1 hx_=>?_
 obtain⟨x,H1,I1,r1,q1⟩:=hx_
 refine thn (hb pins s1 σ H1 _ I1 q1) fun u s2 hx_=>?_
 obtain⟨y,H2,I2,r2,q2⟩:=hx_
 exact hf v u s2 x y H2 I2 r1 r2 q2
theorem Yz3{op:Operator}{r:R2}(ho:OpR X (binaryOp op) r)(ha:PE X a ta)(hb:PE X b tb):PE X (.BinOp a op b pos) (tOp r ta tb):=by
 intro pins s σ H Q I h
 exact wpAny_BinOp (binT ha hb I h fun v u s2 x y H2 I2 rx ry q=>ho pins s2 σ H2 x y v u Q I2 rx ry q)
theorem y55{op:UnaryOp}{r:V→Hp→VK→Prop}(ho:UnR X (unaryOp op) r)(ha:PE X a ta):PE X (.UnaryOp op a pos) (tUn r ta):=by
 intro pins s σ H Q I h
 refine UnaryOp_ (thn (ha pins s σ H _ I h) fun v s1 hx_=>?_)
 obtain⟨x,H1,I1,r1,q1⟩:=hx_
 exact ho pins s1 σ H1 x v Q I1 r1 q1
theorem opI{f:Value→Value→Sem Value}{C:Int→Int→Prop}{g:Int→Int→Int}
 (rule:∀(i j:Int) (t u:Tok) (s:Shared) (Q:Value→Shared→Prop) (E:Value→Shared→Prop),C i j→Q (.int (g i j) s.toks) { s with toks:=s.toks+1 }→wpAny (model X.prog X.w) X.A (f (.int i t) (.int j u)) Q E s) :
 OpR X f (rI C fun i j=>.int (g i j)):=by
 intro pins s σ H x y v u Q I rx ry h
 obtain⟨i,j,rfl,rfl,hc,q⟩:=h
 obtain⟨t,rfl⟩:=rx
 obtain⟨t',rfl⟩:=ry
 exact rule i j t t' s _ _ hc ⟨.int (g i j),H,I.tok _,⟨_,rfl⟩,q⟩
theorem opI0{f:Value→Value→Sem Value}{g:Int→Int→Int}
 (rule:∀(i j:Int) (t u:Tok) (s:Shared) (Q:Value→Shared→Prop) (E:Value→Shared→Prop),Q (.int (g i j) s.toks) { s with toks:=s.toks+1 }→wpAny (model X.prog X.w) X.A (f (.int i t) (.int j u)) Q E s) :
 OpR X f (rI0 fun i j=>.int (g i j)):=by
 intro pins s σ H x y v u Q I rx ry h
 obtain⟨i,j,rfl,rfl,q⟩:=h
 obtain⟨t,rfl⟩:=rx
 obtain⟨t',rfl⟩:=ry
 exact rule i j t t' s _ _ ⟨.int (g i j),H,I.tok _,⟨_,rfl⟩,q⟩
theorem opB0{f:Value→Value→Sem Value}{g:Int→Int→Bool}
 (rule:∀(i j:Int) (t u:Tok) (s:Shared) (Q:Value→Shared→Prop) (E:Value→Shared→Prop),Q (.bool (g i j)) s→wpAny (model X.prog X.w) X.A (f (.int i t) (.int j u)) Q E s) :
 OpR X f (rI0 fun i j=>.bl (g i j)):=by
 intro pins s σ H x y v u Q I rx ry h
 obtain⟨i,j,rfl,rfl,q⟩:=h
 obtain⟨t,rfl⟩:=rx
 obtain⟨t',rfl⟩:=ry
 exact rule i j t t' s _ _ ⟨.bl (g i j),H,I,rfl,q⟩
def CDiv(i j:Int):Prop:=0 < j∧j < 1073741824
def CMul(i j:Int):Prop:=(-(2 ^ 64) < i∧i < 2 ^ 64)∨(-(2 ^ 64) < j∧j < 2 ^ 64)
theorem CMul.ok{i j:Int}(h:CMul i j):IntMulOk i j:=by
 rcases h with⟨h1,h2⟩ | ⟨h1,h2⟩
 ·exact .of_left (intBits_le_64 h1 h2)
 ·exact .of_right (intBits_le_64 h1 h2)
theorem Ytb(k:Nat):(0:Int)≤2 ^ k:=by
 rw[two_pow_cast]
 exact Int.natCast_nonneg _
theorem y2y:OpR X (binaryOp .Add) (rI0 fun i j=>.int (i+j)):=opI0 fun _ _ _ _ _ _ _ q=>add_int q
theorem y2z:OpR X (binaryOp .Sub) (rI0 fun i j=>.int (i - j)):=opI0 fun _ _ _ _ _ _ _ q=>sub_int q
theorem y20:OpR X (binaryOp .Mult) (rI CMul fun i j=>.int (i * j)):=opI fun _ _ _ _ _ _ _ hc q=>mul_int q hc.ok
theorem Yz4:OpR X (binaryOp .FloorDiv) (rI CDiv fun i j=>.int (i / j)):=opI fun i j _ _ _ _ _ hc q=>by
 have h1:(0:Int) < j:=hc.1
 have h2:j < 1073741824:=hc.2
 exact floordiv_int (by lia) (by rw[Int.fdiv_eq_ediv_of_nonneg i (by lia)];exact q) (.inl (PyProof.noPylong_small (by lia)))
theorem y21:OpR X (binaryOp .Mod) (rI (fun _ j=>0 < j) fun i j=>.int (i % j)):=opI fun i j _ _ _ _ _ hc q=>by
 have h1:(0:Int) < j:=hc
 exact mod_int' (by lia) (by rw[Int.fmod_eq_emod_of_nonneg i (by lia)];exact q)
theorem y22:OpR X (binaryOp .RShift) (rI (fun _ j=>0≤j) fun i j=>.int (i / 2 ^ j.toNat)):=opI fun i j _ _ _ _ _ hc q=>
 rshift_int hc (by rw[Int.fdiv_eq_ediv_of_nonneg i (Ytb _)];exact q)
theorem unI{f:Value→Sem Value}{g:Int→Int}
 (rule:∀(i:Int) (t:Tok) (s:Shared) (Q:Value→Shared→Prop) (E:Value→Shared→Prop),Q (.int (g i) s.toks) { s with toks:=s.toks+1 }→wpAny (model X.prog X.w) X.A (f (.int i t)) Q E s) :
 UnR X f (rU fun i=>.int (g i)):=by
 intro pins s σ H x v Q I rx h
 obtain⟨i,rfl,q⟩:=h
 obtain⟨t,rfl⟩:=rx
 exact rule i t s _ _ ⟨.int (g i),H,I.tok _,⟨_,rfl⟩,q⟩
theorem y23:UnR X (unaryOp .USub) (rU fun i=>.int (-i)):=unI fun _ _ _ _ _ q=>neg_int q
end
noncomputable def scal:V→V→Bool
 | .non,.non=>true | .non,.int _=>true | .int _,.non=>true | .non,.bl _=>true | .bl _,.non=>true | .non,.str _=>true | .str _,.non=>true
 | .int _,.int _=>true | .bl _,.bl _=>true | .str _,.str _=>true | .byt _,.byt _=>true
 | .int _,.str _=>true | .str _,.int _=>true | .bl _,.str _=>true | .str _,.bl _=>true
 | _,_=>false
section
variable {X:Cx} {a b c:Expr} {ta tb tc:TE} {pos:Pos}
theorem Yy6{pins:List (Addr × Obj)}{σ:St}{H:Hp}{s:Shared}{Q:VK}{k k':Bool}(I:Inv X pins σ H s)(q:Q (.bl k) H)(e:k=k'):EP X pins σ Q (.bool k') s:=by
 subst e
 exact⟨.bl k,H,I,rfl,q⟩
theorem y24:OpR X (compareOp .Lt) (rI0 fun i j=>.bl (decide (i < j))):=opB0 fun _ _ _ _ _ _ _ q=>lt_int q
theorem y56:OpR X (compareOp .LtE) (rI0 fun i j=>.bl (decide (i≤j))):=opB0 fun _ _ _ _ _ _ _ q=>le_int q
theorem y57:OpR X (compareOp .Gt) (rI0 fun i j=>.bl (decide (j < i))):=opB0 fun _ _ _ _ _ _ _ q=>gt_int q
theorem Yy7:OpR X (compareOp .Is) (fun x y H Q=>y=.non∧Q (.bl (decide (x=.non))) H):=by
 intro pins s σ H x y v u Q I rx ry h
 obtain⟨rfl,q⟩:=h
 cases ry
 refine is_none_gen (Yy6 I q ?_)
 cases x<;>first
  | (cases rx;rfl)
  | (obtain⟨t,rfl⟩:=rx;rfl)
theorem Yun:OpR X (compareOp .IsNot) (fun x y H Q=>y=.non∧Q (.bl (!decide (x=.non))) H):=by
 intro pins s σ H x y v u Q I rx ry h
 obtain⟨rfl,q⟩:=h
 cases ry
 refine isnot_none_gen (Yy6 I q ?_)
 cases x<;>first
  | (cases rx;rfl)
  | (obtain⟨t,rfl⟩:=rx;rfl)
theorem Yfz(b:Expr){op:CmpOp}(h:op≠.In:=by decide)(h2:op≠.NotIn:=by decide):behindInMarks op b=false:=by
 have e1:(op==CmpOp.In)=false:=by cases op<;>first | rfl | exact absurd rfl h
 have e2:(op==CmpOp.NotIn)=false:=by cases op<;>first | rfl | exact absurd rfl h2
 cases b with
 | Set elts k p=>
   show((k==0)&&((op==CmpOp.In)||(op==CmpOp.NotIn))&&_)=false
   rw[e1,e2]
   cases (k==0)<;>rfl
 | _=>rfl
theorem Yz5{op:CmpOp}{r:R2}(ho:OpR X (compareOp op) r)(ha:PE X a ta)(hb:PE X b tb)(hm:behindInMarks op b=false):PE X (.Compare a [op] [b] pos) (tOp r ta tb):=by
 intro pins s σ H Q I h
 exact wpAny_Compare1 (binT ha hb I h fun v u s2 x y H2 I2 rx ry q=>ho pins s2 σ H2 x y v u Q I2 rx ry q) hm
noncomputable def y25(t:TE):TT:=fun σ H Q=>t σ H fun x H'=>∃k,x=.bl k∧Q k H'
theorem Yz6{op:CmpOp}{r:R2}(ho:OpR X (compareOp op) r)(ha:PE X a ta)(hb:PE X b tb)(hm:behindInMarks op b=false):PT X (.Compare a [op] [b] pos) (y25 (tOp r ta tb)):=by
 intro pins s σ H Q I h
 refine wpAny_isTrue_Compare1 (thn (ha pins s σ H _ I h) fun v s1 hx_=>?_) hm
 obtain⟨x,H1,I1,r1,q1⟩:=hx_
 refine thn (hb pins s1 σ H1 _ I1 q1) fun u s2 hx_=>?_
 obtain⟨y,H2,I2,r2,q2⟩:=hx_
 refine thn (ho pins s2 σ H2 x y v u _ I2 r1 r2 q2) fun c s3 hx_=>?_
 obtain⟨z,H3,I3,r3,k,e,q3⟩:=hx_
 subst e
 cases r3
 exact wpAny_truthy_bool ⟨H3,I3,q3⟩
noncomputable def y26(r r':R2)(ta tb tc:TE):TE:=fun σ H Q=>ta σ H fun x H1=>tb σ H1 fun y H2=>r x y H2 fun z H3=>∃k,z=.bl k∧
 (if k=true then tc σ H3 fun w' H4=>r' y w' H4 Q else Q (.bl false) H3)
theorem Yxj{op op':CmpOp}{r r':R2}(ho:OpR X (compareOp op) r)(ho':OpR X (compareOp op') r')(ha:PE X a ta)(hb:PE X b tb)(hc:PE X c tc)
 (hm:lastMarks [op,op'] [b,c]=false:=by with_unfolding_all rfl):PE X (.Compare a [op,op'] [b,c] pos) (y26 r r' ta tb tc):=by
 intro pins s σ H Q I h
 refine Compare_chain (thn (ha pins s σ H _ I h) fun v s1 hx_=>?_) hm
 obtain⟨x,H1,I1,r1,q1⟩:=hx_
 refine chain_link (thn (hb pins s1 σ H1 _ I1 q1) fun u s2 hx_=>?_)
 obtain⟨y,H2,I2,r2,q2⟩:=hx_
 refine thn (ho pins s2 σ H2 x y v u _ I2 r1 r2 q2) fun d s3 hx_=>?_
 obtain⟨z,H3,I3,r3,k,e,q3⟩:=hx_
 subst e
 cases r3
 refine wpAny_truthy_bool ?_
 cases k with
 | false=>exact ite_ff ⟨.bl false,H3,I3,rfl,q3⟩
 | true=>
   refine ite_tt (chain_last (thn (hc pins s3 σ H3 _ I3 q3) fun w' s4 hx_=>?_))
   obtain⟨z',H4,I4,r4,q4⟩:=hx_
   exact ho' pins s4 σ H4 y z' u w' Q I4 r2 r4 q4
def TruV(K:W.Frag)(x:V)(H:Hp)(k:Bool):Prop:=
 match x with
 | .non=>k=false
 | .bl b=>k=b
 | .int i=>k=(i != 0)
 | .str y=>y.length≤sizeLine∧k=((y.length:Int) != 0)
 | .byt y=>y.size≤sizeLine∧k=((y.size:Int) != 0)
 | .ref p=>(∃xs,SqL K H p xs∧k=!xs.isEmpty)∨(∃xs,SqT K H p xs∧k=!xs.isEmpty)∨∃kvs,H p=some (.dK kvs)∧k=!kvs.isEmpty
 | _=>False
theorem Ytc{κ:Type}{kvs:List (κ × V)}{vs:List (κ × Value)}(r:KV kvs vs):(!vs.isEmpty)=!kvs.isEmpty:=by
 cases r<;>rfl
theorem Ymd{xs:List V}{its:List Value}(r:Vals xs its):(!its.toArray.isEmpty)=!xs.isEmpty:=by
 cases r<;>simp
theorem Yoo:(sizeLine:Nat) < 2 ^ 63:=by rw[sizeLine_eq];decide
theorem y27:TruR X (fun x H Q=>∃k,TruV X.K x H k∧Q k H):=by
 intro pins s σ H x v Q I rx h
 obtain⟨k,e,q⟩:=h
 have hl:=Yoo
 have hs:sizeLine=16777216:=sizeLine_eq
 cases x with
 | non=>
   cases rx
   have e':k=false:=e
   subst e'
   exact truthy_none ⟨H,I,q⟩
 | bl b=>
   cases rx
   have e':k=b:=e
   subst e'
   exact wpAny_truthy_bool ⟨H,I,q⟩
 | int i=>
   obtain⟨t,rfl⟩:=rx
   have e':k=(i != 0):=e
   subst e'
   exact PySem.P.truthy_int ⟨H,I,q⟩
 | str y=>
   obtain⟨t,rfl⟩:=rx
   obtain⟨hy,e'⟩:y.length≤sizeLine∧k=((y.length:Int) != 0):=e
   subst e'
   exact PySem.P.truthy_str (by lia) ⟨H,I.tok _,q⟩
 | byt y=>
   obtain⟨t,rfl⟩:=rx
   obtain⟨hy,e'⟩:y.size≤sizeLine∧k=((y.size:Int) != 0):=e
   subst e'
   exact W.truthy_bytes (by lia) ⟨H,I.tok _,q⟩
 | ref p=>
   cases rx
   have e':(∃xs,SqL X.K H p xs∧k=!xs.isEmpty)∨(∃xs,SqT X.K H p xs∧k=!xs.isEmpty)∨∃kvs,H p=some (.dK kvs)∧k=!kvs.isEmpty:=e
   rcases e' with⟨xs,hx,e'⟩ | ⟨xs,hx,e'⟩ | ⟨kvs,hx,e'⟩
   ·subst e'
    obtain⟨its,r,pl,hz⟩:=I.list hx
    have hlen:=r.length
    exact wpAny_truthy_list pl.isList (by simp only[qj];lia) ⟨H,I.tok _,by rw[Ymd r];exact q⟩
   ·subst e'
    obtain⟨its,r,pl,hz⟩:=I.tuple hx
    have hlen:=r.length
    exact truthy_tuple pl (by simp only[qj];lia) ⟨H,I.tok _,by rw[Ymd r];exact q⟩
   ·subst e'
    obtain⟨hz,hS,vs,r,m⟩:kvs.length≤sizeLine∧(p==sysModules)=false∧∃vs,KV kvs vs∧s.heap.DictOf (Yao X.prog X.w) p vs:=I.hok p _ hx
    have hlen:kvs.length=vs.length:=Paired.length r
    exact wpAny_truthy_dict hS m (by lia) ⟨H,I.tok _,by rw[Ytc r];exact q⟩
 | _=>exact(show False from e).elim
theorem Yxk(ha:PE X a ta)(he:∀whole,isTrue a X.env whole=(do let v ←whole;standAt a.pos;holding [v] (truthy v))) :
 PT X a (fun σ H Q=>ta σ H fun x H'=>∃k,TruV X.K x H' k∧Q k H'):=by
 intro pins s σ H Q I h
 refine isTrue_plain (thn (ha pins s σ H _ I h) fun v s1 hx_=>?_) (he _)
 obtain⟨x,H1,I1,r1,q1⟩:=hx_
 exact y27 pins s1 σ H1 x v Q I1 r1 q1
theorem Yhu{x:V}{us:List Value}(r:Vals [x] us):∃u,us=[u]∧RelV x u:=by
 cases r with
 | cons r1 r2=>cases r2;exact⟨_,rfl,r1⟩
theorem Yuo{x y:V}{us:List Value}(r:Vals [x,y] us):∃u w',us=[u,w']∧RelV x u∧RelV y w':=by
 cases r with
 | cons r1 r2=>
   cases r2 with
   | cons r3 r4=>cases r4;exact⟨_,_,rfl,r1,r3⟩
theorem Yop(hc:X.calm=true):Ydx X (.builtin "min") (fun xs H Q=>∃i j,xs=[.int i,.int j]∧Q (.int (if j < i then j else i)) H):=by
 intro pins s σ H xs us Q I r h
 obtain⟨i,j,rfl,q⟩:=h
 obtain⟨u,w',rfl,⟨t,rfl⟩,⟨t',rfl⟩⟩:=Yuo r
 refine min_two_ints (I.ok.hd hc) fun h' tk k=>⟨_,H,I.kept k,?_,q⟩
 by_cases hj:j < i
 ·rw[if_pos hj,if_pos hj];exact⟨_,rfl⟩
 ·rw[if_neg hj,if_neg hj];exact⟨_,rfl⟩
theorem Yup:Ydx X (.type "int") (fun xs H Q=>(∃i,xs=[.int i]∧Q (.int i) H)∨∃k,xs=[.bl k]∧Q (.int (if k then 1 else 0)) H):=by
 intro pins s σ H xs us Q I r h
 rcases h with⟨i,rfl,q⟩ | ⟨k,rfl,q⟩
 ·obtain⟨u,rfl,t,rfl⟩:=Yhu r
  exact call_int_int ⟨.int i,H,I,⟨_,rfl⟩,q⟩
 ·obtain⟨u,rfl,r1⟩:=Yhu r
  cases r1
  exact call_int_bool ⟨.int (if k then 1 else 0),H,I.tok _,⟨_,rfl⟩,q⟩
end
end L2
namespace L2
open PySem PySem.Spec PyProof.Rows
structure ObjM(h:Heap)(x dx C:Addr)(mA:Str→Option Value):Prop where
 obj:h.get? x=some (W.instObj C dx)
 ns:h.Ns1 dx mA
 ne:dx≠x
theorem Yuq{h:Heap}{dx:Addr}{mA:Str→Option Value}(n:h.Ns1 dx mA):∃od,h.get? dx=some od∧∀name,W.lookIn name od=some (mA name):=by
 obtain⟨o,es,ep,ho,hd,hk,_,hm⟩:=n
 refine⟨o,ho,fun name=>?_⟩
 have e:=hm name
 unfold nsFind findBy at e
 rw[←Array.find?_toList]at e
 unfold W.lookIn
 rw[hd]
 dsimp only
 split
 ·rename_i y q
  rw[q]at e
  exact congrArg some e
 ·rename_i q
  rw[q]at e
  have a:es.toList.any (·.refKey)=false:=by
   rw[List.any_eq_false]
   intro y hy
   obtain⟨z,t,hkey⟩:=hk y (Array.mem_toList_iff.mp hy)
   simp[DictEntry.refKey,hkey]
  have a':¬es.toList.any (·.refKey)=true:=by rw[a];exact qh
  rw[if_neg a']
  exact congrArg some e
theorem ObjM.look{h:Heap}{x dx C:Addr}{mA:Str→Option Value}(I:ObjM h x dx C mA):∃od,W.InstAt h x (W.instObj C dx) C (some od)∧∀name,W.lookIn name od=some (mA name):=
 let ⟨od,ho,hl⟩:=Yuq I.ns
 ⟨od,⟨I.obj,rfl,rfl,ho⟩,hl⟩
section
variable {P:Program} {w:World} {H H':Hp} {h h':Heap} {a C dx:Addr} {fs fs':List (Str × V)}
theorem Yz7(hok:HOk P w H h)(e:H a=some (.ins C dx fs)):∃mA,ObjM h a dx C mA∧(∀f,RelO (fs.lookup f) (mA f))∧PySem.Within mA (fs.map (·.1))∧fs.length≤1000∧H dx=some (.own a):=by
 obtain⟨d,z,ne,ob,mA,n,r,q⟩:=(show ObjOk P w H h a (.ins C dx fs) from hok a _ e)
 exact⟨mA,⟨ob,n,ne⟩,r,q,z,d⟩
end
structure Cls(K:W.Frag)(C:Addr):Prop where
 pg:W.plainGet K C Str.empty=true
 hd:W.hasDictIn K C=true
 po:W.plainOver K C=true
 sa:W.findIn K (.ref C) "__setattr__"=some (some (.builtin "object.__setattr__"))
theorem Cls.get{K:W.Frag}{C:Addr}(c:Cls K C)(f:Str):W.plainGet K C f=true:=c.pg
structure Con(K:W.Frag)(C:Addr)(f:Str)(v:V)(u:Value):Prop where
 at_:W.findIn K (.ref C) f=some (some u)
 rel:RelV v u
 get:W.specialIn K u "__get__"=some none
 cp:W.copiedNames.contains f=false
structure Meth(K:W.Frag)(C:Addr)(m:Str)(f:Addr):Prop where
 at_:W.findIn K (.ref C) m=some (some (.ref f))
 fn:W.isFn K (.ref f)=true
 kp:W.keepIn K (.ref f)=true
section
variable {X:Cx} {pins:List (Addr × Obj)} {σ:St} {H:Hp} {s:Shared} {A:Around} {E:Value→Shared→Prop} {Q:Value→Shared→Prop} {c:Value} {b:Bool}
inductive TyOf (K:W.Frag) (H:Hp):V→Value→Prop where
 | non:TyOf K H .non (.type "NoneType")
 | bl (x:Bool):TyOf K H (.bl x) (.type "bool")
 | int (i:Int):TyOf K H (.int i) (.type "int")
 | str (x:Str):TyOf K H (.str x) (.type "str")
 | flt (x:UInt64):TyOf K H (.flt x) (.type "float")
 | lst {a:Addr} {xs:List V} (e:H a=some (.lst xs)):TyOf K H (.ref a) (.type "list")
 | frz {a:Addr} {o:Obj} {xs:List V} (e:H a=some (.frz o (.lst xs))):TyOf K H (.ref a) (.type "list")
 | tup {a:Addr} {xs:List V} (e:H a=some (.tup xs)):TyOf K H (.ref a) (.type "tuple")
 | dK {a:Addr} {kvs:List (Key × V)} (e:H a=some (.dK kvs)):TyOf K H (.ref a) (.type "dict")
 | dT {a:Addr} {kvs:List (List Key × V)} (e:H a=some (.dT kvs)):TyOf K H (.ref a) (.type "dict")
 | ins {a C dx:Addr} {fs:List (Str × V)} (e:H a=some (.ins C dx fs)) (cl:Cls K C) (ha:W.findIn K (.ref C) "__class__"=some (some (.builtin "object.__class__")))
  (hn:W.specialIn K (.builtin "object.__class__") "__get__"=some (some (.builtin "getset_descriptor.__get__"))) (htk:W.takesIn K (.builtin "object.__class__")=some true)
  (hm:W.mroIn K C (.type "object")=some true):TyOf K H (.ref a) (.ref C)
theorem Yur{x:V}{u t:Value}(I:Inv X pins σ H s)(rx:RelV x u)(ty:TyOf X.K H x t)(e:W.kitOne X.K t c=some b)(h:∀tk,Q (.bool b) { s with toks:=tk }) :
 wpAny (model X.prog X.w) A (call (.builtin "isinstance") [u,c]) Q E s:=by
 cases ty with
 | non=>cases (show u=Value.none from rx);exact W.kia_one W.kitx_none I.kIn True.intro e (fun z=>nomatch z) h
 | bl y=>cases (show u=Value.bool y from rx);exact W.kia_one W.kitx_bool I.kIn True.intro e (fun z=>nomatch z) h
 | int i=>obtain⟨t,q⟩:=(show ∃t,u=Value.int i t from rx);cases q;exact W.kia_one W.kitx_int I.kIn True.intro e (fun z=>nomatch z) h
 | str y=>obtain⟨t,q⟩:=(show ∃t,u=Value.str y t from rx);cases q;exact W.kia_one W.kitx_str I.kIn True.intro e (fun z=>nomatch z) h
 | flt y=>obtain⟨t,q⟩:=(show ∃t,u=Value.float y t from rx);cases q;exact W.kia_one W.kitx_float I.kIn True.intro e (fun z=>nomatch z) h
 | @lst a xs ea=>
   cases (show u=Value.ref a from rx)
   obtain⟨_,_,n,_,h1⟩:=(show ObjOk X.prog X.w H s.heap a (.lst xs) from I.hok a _ ea)
   exact W.kia_one W.kitx_list I.kIn ⟨_,h1,rfl⟩ e (fun z=>nomatch z) h
 | @frz a ob xs ea=>
   cases (show u=Value.ref a from rx)
   obtain⟨_,_,_,n,_,h1⟩:=(show ObjOk X.prog X.w H s.heap a (.frz ob (.lst xs)) from I.hok a _ ea)
   exact W.kia_one W.kitx_list I.kIn ⟨_,h1,rfl⟩ e (fun z=>nomatch z) h
 | @tup a xs ea=>
   cases (show u=Value.ref a from rx)
   obtain⟨_,_,_,p⟩:=(show ObjOk X.prog X.w H s.heap a (.tup xs) from I.hok a _ ea)
   obtain⟨o,h1,h2,_⟩:=p
   exact W.kia_one W.kitx_tuple I.kIn ⟨o,h1,h2⟩ e (fun z=>nomatch z) h
 | @dK a kvs ea=>
   cases (show u=Value.ref a from rx)
   obtain⟨_,_,vs,_,p⟩:=(show ObjOk X.prog X.w H s.heap a (.dK kvs) from I.hok a _ ea)
   obtain⟨o,es,ep,h1,h2,_⟩:=p
   exact W.kia_one W.kitx_dict I.kIn ⟨o,h1,h2.1⟩ e (fun z=>nomatch z) h
 | @dT a kvs ea=>
   cases (show u=Value.ref a from rx)
   obtain⟨_,_,xs,_,o,es,ep,h1,h2,_⟩:=(show ObjOk X.prog X.w H s.heap a (.dT kvs) from I.hok a _ ea)
   exact W.kia_one W.kitx_dict I.kIn ⟨o,h1,h2.1⟩ e (fun z=>nomatch z) h
 | @ins a C dx fs ea cl ha hn htk hm=>
   cases (show u=Value.ref a from rx)
   obtain⟨mA,O,_⟩:=Yz7 I.hok ea
   obtain⟨od,J,_⟩:=O.look
   exact W.kia_one (W.kitx_own (cl.get _) cl.hd ha hn htk hm) I.kIn J e (fun z=>nomatch z) h
end
end L2
namespace L2
open PySem PySem.Spec PyProof.Rows
structure Room(k:Nat)(A:Around):Prop where
 hd:A.handled=none
 dp:A.depth+3 * k+5 < recursionLimit
 un:A.units+16 * k+200 < cLine
theorem Room.mono{j k:Nat}{A:Around}(r:Room k A)(h:j≤k):Room j A:=⟨r.hd,by have:=r.dp;lia,by have:=r.un;lia⟩
theorem Room.deeper{k:Nat}{A:Around}(r:Room (k+1) A)(env:Env):Room k (A.deeper env):=
 ⟨r.hd,by have:=r.dp;show A.depth+1+3 * k+5 < _;lia,by have:=r.un;show A.units+3+16 * k+200 < _;lia⟩
theorem Room.depth{k:Nat}{A:Around}(r:Room k A):A.depth < recursionLimit:=by have:=r.dp;lia
theorem Room.units{k:Nat}{A:Around}(r:Room k A):A.units+64 < cLine:=by have:=r.un;lia
noncomputable def tNil:TA:=fun _ H Q=>Q [] H
noncomputable def y58(ta:TE)(tr:TA):TA:=fun σ H Q=>ta σ H fun x H1=>tr σ H1 fun xs H2=>Q (x::xs) H2
section
variable {X:Cx} {e:Expr} {es:List Expr} {te:TE} {t:TA} {pos:Pos}
theorem Yme:PA X [] tNil:=fun _ _ _ _ H Q I h=>Calls.spliced_nil ⟨[],H,I,.nil,h⟩
theorem Yg7(ha:PE X e te)(hr:PA X es t)(hs:starEach (e::es) X.env=(false,eval e X.env)::starEach es X.env:=by rfl):PA X (e::es) (y58 te t):=by
 intro pos pins s σ H Q I h
 rw[hs]
 show wpAny _ _ (spliced ((false,eval e X.env)::backTo pos (starEach es X.env))) _ _ s
 refine Calls.spliced_cons (thn (ha pins s σ H _ I h) fun u s1 hx_=>?_)
 obtain⟨x,H1,I1,r1,q1⟩:=hx_
 refine thn (hr pos pins s1 σ H1 _ I1 q1) fun us s2 hx_=>?_
 obtain⟨xs,H2,I2,r2,q2⟩:=hx_
 exact⟨x::xs,H2,I2,.cons r1 r2,q2⟩
noncomputable def tTup(t:TA):TE:=fun σ H Q=>t σ H fun xs H1=>xs.length≤sizeLine∧∀p,H1 p=none→Q (.ref p) (upd H1 p (.tup xs))
noncomputable def tLst(t:TA):TE:=fun σ H Q=>t σ H fun xs H1=>xs.length≤sizeLine∧∀p,H1 p=none→Q (.ref p) (upd H1 p (.lst xs))
theorem y28{x1}(h:PA X es t):PE X (.Tuple es x1 pos) (tTup t):=by
 intro pins s σ H Q I hq
 refine wpAny_Tuple_spliced (thn (h pos pins s σ H _ I hq) fun us s1 ⟨xs,H1,I1,r,z,q⟩=>⟨by rw[←r.length];exact z,?_⟩)
 have hf:H1 s1.heap.objs.size=none:=I1.hok.fresh (qt _)
 refine⟨.ref s1.heap.objs.size,upd H1 s1.heap.objs.size (.tup xs),I1.laid (t':=s1.toks) (fun b u e=>qd _ e) (qt _) ?_,rfl,q _ hf⟩
 exact⟨z,us,r,⟨_,qo _ rfl,rfl,_,rfl⟩⟩
theorem y29(h:PA X es t):PE X (.List es pos) (tLst t):=by
 intro pins s σ H Q I hq
 refine wpAny_List_spliced (thn (h pos pins s σ H _ I hq) fun us s1 ⟨xs,H1,I1,r,z,q⟩=>⟨by rw[←r.length];exact z,?_⟩)
 have hf:H1 s1.heap.objs.size=none:=I1.hok.fresh (qt _)
 refine⟨.ref s1.heap.objs.size,upd H1 s1.heap.objs.size (.lst xs),I1.laid (t':=s1.toks) (fun b u e=>qd _ e) (qt _) ?_,rfl,q _ hf⟩
 exact⟨z,us,0,r,qo _ rfl⟩
end
noncomputable abbrev Sp:=List V→Hp→VK→XK→Prop
noncomputable abbrev CXT:=List Env→Hp→Shared→XK→Value→Shared→Prop
structure Env0(P:Program)(w:World)(K:W.Frag)(mg:Str→Option Value)(base:Heap)(A:Around)(outer:List Env)(s:Shared)(H:Hp):Prop where
 frames:A.frames=some outer
 mod:Mod K mg base
 bs:∀b o,base.get? b=some o→s.heap.get? b=some o∧H b=none
 bsz:base.objs.size≤s.heap.objs.size
 funs:s.heap.FunFrames base outer
 frf:∀b∈frs outer,H b=none
 hok:HOk P w H s.heap
 bare:AllBare s.gens
def CE(outer:List Env)(P:Program)(w:World)(H:Hp)(s:Shared)(Q:VK)(u:Value)(s':Shared):Prop:=
 ∃v H',s'.os=s.os∧AllBare s'.gens∧Un (frs outer) [] H H' s.heap s'.heap∧HOk P w H' s'.heap∧RelV v u∧Q v H'
def CR(CX:CXT)(outer:List Env)(P:Program)(w:World)(H:Hp)(s:Shared)(Q:VK)(E:XK)(r:Result)(s':Shared):Prop:=
 match r with
 | .ok (.ret u)=>CE outer P w H s Q u s'
 | .ok _=>False
 | .error e=>CX outer H s E e s'
structure FnOk(P:Program)(w:World)(K:W.Frag)(mg:Str→Option Value)(base:Heap)(CX:CXT)(k:Nat)(f:Addr)(fd:FuncData)(ps:List Str)(sp:Sp):Prop where
 len:∀vs H Q E,sp vs H Q E→vs.length=ps.length
 run:∀(A:Around) (outer:List Env) (s:Shared) (H:Hp) (args:Args) (us:List Value) (vs:List V) (Q:VK) (E:XK),Room k A→Env0 P w K mg base A outer s H→BindsTo s fd args (ps.zip us)→Vals vs us→sp vs H Q E→
  codeAny (model P w) A (.call (.ref f) args) (CR CX outer P w H s Q E) s
section
variable {X:Cx} {pins:List (Addr × Obj)} {σ:St} {H:Hp} {s s':Shared}
theorem Inv.env0(I:Inv X pins σ H s):Env0 X.prog X.w X.K X.mg X.base X.A X.stack s H:=
 ⟨I.ok.frames,I.ok.mod,I.bs,Qf I.ok.bsz I.sz,I.stack,I.stkFree,I.hok,I.bare⟩
theorem Inv.after{Q:VK}{u:Value}(I:Inv X pins σ H s)(h:CE X.stack X.prog X.w H s Q u s'):EP X pins σ Q u s':=by
 obtain⟨v,H',os,bare,un,hok,r,q⟩:=h
 obtain⟨hh,g,d,t,os'⟩:=s'
 obtain rfl:os'=s.os:=os
 exact⟨v,H',I.call (h':=hh) (g':=g) (d':=d) (t':=t) (ch:=[]) un hok bare (fun b z=>absurd z (by simp)),r,q⟩
end
noncomputable def y59(sp:Sp)(dvs:List V)(E:XK)(t:TA):TE:=fun σ H Q=>t σ H fun vs H1=>sp (vs++dvs) H1 Q E
def Binds(K:W.Frag)(fd:FuncData)(ps:List Str)(ds:List Value):Prop:=
 ∀(s:Shared) (us:List Value),K.In s.heap→(us++ds).length=ps.length→BindsTo s fd ⟨us,[]⟩ (ps.zip (us++ds))
theorem Binds.all{K:W.Frag}{fd:FuncData}{ps:List Str}(h:∀us:List Value,us.length=ps.length→bindArgs fd ⟨us,[]⟩=pure (ps.zip us)):Binds K fd ps []:=fun s us _ hl=>by
 rw[List.append_nil]at hl ⊢
 exact .of_eq (h us hl)
def Yus(CX:CXT)(X:Cx)(E:XK):Prop:=∀(pins:List (Addr × Obj)) (σ:St) (H:Hp) (s:Shared) (e:Value) (s':Shared),Inv X pins σ H s→CX X.stack H s E e s'→X.xe e s'
section
variable {X:Cx} {CX:CXT} {k:Nat} {f C:Addr} {fd:FuncData} {ps:List Str} {sp:Sp} {dvs:List V} {ds:List Value} {E:XK} {x m:Str} {p pos apos:Pos} {e o:Expr} {es:List Expr} {ta:TE} {t:TA}
theorem y3a{pins:List (Addr × Obj)}{σ:St}{H:Hp}{s:Shared}{Q:VK}{us:List Value}{vs:List V}(F:FnOk X.prog X.w X.K X.mg X.base CX k f fd ps sp)(hr:Room k X.A)(hb:Binds X.K fd ps ds)(hd:Vals dvs ds)(hx:Yus CX X E)
 (I:Inv X pins σ H s) (r:Vals vs us) (h:sp (vs++dvs) H Q E):wpAny (model X.prog X.w) X.A (call (.ref f) us) (EP X pins σ Q) X.xe s:=by
 have r2:Vals (vs++dvs) (us++ds):=r.append hd
 have hl:(us++ds).length=ps.length:=by rw[←r2.length];exact F.len _ _ _ _ h
 refine wpAny_call (codeAny_mono (F.run X.A X.stack s H ⟨us,[]⟩ (us++ds) (vs++dvs) Q E hr I.env0 (hb s us I.kIn hl) r2 h) fun r s' hq=>?_)
 cases r with
 | error e=>exact hx pins σ H s e s' I hq
 | ok fl=>
   cases fl with
   | ret u=>exact I.after hq
   | next=>exact False.elim hq
   | brk=>exact False.elim hq
   | cont=>exact False.elim hq
theorem Yz8(F:FnOk X.prog X.w X.K X.mg X.base CX k f fd ps sp)(hr:Room k X.A)(hg:Gl X x)(hm:X.mg x=some (.ref f))(hk:W.keepIn X.K (.ref f)=true)(hb:Binds X.K fd ps ds)(hd:Vals dvs ds)(hx:Yus CX X E)
 (ha:PA X (e::es) t) (hdb:(x==("__debug__":Str))=false:=by decide) (he:starEach (e::es) X.env=(false,eval e X.env)::starEach es X.env:=by rfl) (hpl:(backTo pos (starEach es X.env)).any (·.1)=false:=by rfl) :
 PE X (.Call (.Name x p) (e::es) [] pos) (y59 sp dvs E t):=by
 intro pins s σ H Q I h
 refine wpAny_Call_Name_kw (Yzw I hg hm ?_ hdb)
 refine W.callWith_K (h₀:=X.base) I.ok.mod.kin hk (thn (ha pos pins s σ H _ I h) fun us s1 hx_=>?_) he hpl
 obtain⟨vs,H1,I1,r,q⟩:=hx_
 refine⟨I1.kIn,?_⟩
 exact y3a F hr hb hd hx I1 r q
structure Mk(K:W.Frag)(C f:Addr):Prop where
 makes:W.makesIn K C=true
 init:W.findIn K (.ref C) "__init__"=some (some (.ref f))
 fn:W.isFn K (.ref f)=true
 kp:W.keepIn K (.ref C)=true
end
section
variable {X:Cx} {CX:CXT} {k:Nat} {f C:Addr} {fd:FuncData} {ps ks:List Str} {sp:Sp} {E:XK} {x m:Str} {p pos apos kpos:Pos} {e o:Expr} {es:List Expr} {kws:List Keyword} {te ta:TE} {t tk:TA} {nm:Option Str}
structure KBinds(K:W.Frag)(fd:FuncData)(ps ks:List Str)(g:List Value→List Value→List Value)(gV:List V→List V→List V):Prop where
 to:∀(s:Shared) (us ws:List Value),K.In s.heap→(g us ws).length=ps.length→BindsTo s fd ⟨us,ks.zip ws⟩ (ps.zip (g us ws))
 rel:∀{vs:List V} {us:List Value} {zs:List V} {ws:List Value},Vals vs us→Vals zs ws→Vals (gV vs zs) (g us ws)
variable {g:List Value→List Value→List Value} {gV:List V→List V→List V}
end
structure FnScope(N P:List Str)(sc:Scope):Prop where
 kind:sc.kind=.function
 co:sc.isCoroutine=false
 gen:sc.isGenerator=false
 nd:N.Nodup
 pre:N.take P.length=P
 par:∀x∈P,sc.names.lookup x=some .local∨sc.names.lookup x=some .cell
 nofree:∀y∈sc.names,y.2≠.free
theorem Yoq{kindOf:Str→Option NameKind}{x:Str}:∀{binds:List (Str × Value)} {m:Str→Option Value},(∀v,(x,v)∉binds)→bindL kindOf binds m x=m x
 | [],_,_=>rfl
 | (n,v)::r,m,h=>by
   unfold bindL
   rw[Yoq fun w hw=>h w (qf _ hw)]
   split
   ·have:x≠n:=by rintro rfl;exact h v qg
    simp[this]
   ·rfl
theorem Yor{kindOf:Str→Option NameKind}{x:Str}:∀{binds:List (Str × Value)} {m:Str→Option Value},(∀v,(x,v)∉binds)→bindC kindOf binds m x=m x
 | [],_,_=>rfl
 | (n,v)::r,m,h=>by
   unfold bindC
   rw[Yor fun w hw=>h w (qf _ hw)]
   split
   ·rfl
   ·have:x≠n:=by rintro rfl;exact h v qg
    simp[this]
theorem Yos{kindOf:Str→Option NameKind}{x:Str}{v:Value}:∀{P:List Str} {vs:List Value} {i:Nat} {m:Str→Option Value},P.Nodup→P[i]?=some x→vs[i]?=some v→kindOf x=some .local→
 bindL kindOf (P.zip vs) m x=some v
 | [],_,_,_,_,h,_,_=>by simp at h
 | _::_,[],_,_,_,_,h,_=>by simp at h
 | p::P,w::vs,0,m,nd,h1,h2,hk=>by
   simp at h1 h2;subst h1;subst h2
   show bindL kindOf ((p,w)::P.zip vs) m p=_
   unfold bindL
   rw[Yoq fun v hv=>(List.nodup_cons.mp nd).1 (List.of_mem_zip hv).1,if_pos hk]
   simp
 | p::P,w::vs,i+1,m,nd,h1,h2,hk=>by
   show bindL kindOf ((p,w)::P.zip vs) m x=_
   unfold bindL
   exact Yos (i:=i) (List.nodup_cons.mp nd).2 (by simpa using h1) (by simpa using h2) hk
theorem Yot{kindOf:Str→Option NameKind}{x:Str}{v:Value}:∀{P:List Str} {vs:List Value} {i:Nat} {m:Str→Option Value},P.Nodup→P[i]?=some x→vs[i]?=some v→kindOf x≠some .local→
 bindC kindOf (P.zip vs) m x=some v
 | [],_,_,_,_,h,_,_=>by simp at h
 | _::_,[],_,_,_,_,h,_=>by simp at h
 | p::P,w::vs,0,m,nd,h1,h2,hk=>by
   simp at h1 h2;subst h1;subst h2
   show bindC kindOf ((p,w)::P.zip vs) m p=_
   unfold bindC
   rw[Yor fun v hv=>(List.nodup_cons.mp nd).1 (List.of_mem_zip hv).1,if_neg hk]
   simp
 | p::P,w::vs,i+1,m,nd,h1,h2,hk=>by
   show bindC kindOf ((p,w)::P.zip vs) m x=_
   unfold bindC
   exact Yot (i:=i) (List.nodup_cons.mp nd).2 (by simpa using h1) (by simpa using h2) hk
noncomputable def start(N:List Str)(vs:List V):St:=vs.map some++List.replicate (N.length - vs.length) none
noncomputable def cxOf(CX:CXT)(P:Program)(w:World)(K:W.Frag)(mg:Str→Option Value)(base:Heap)(N:List Str)(qual:Str)(scope:Scope)(f:Addr)(cd:Value)(A:Around)(outer:List Env)(s:Shared)(H:Hp)(E:XK):Cx where
 prog:=P
 w:=w
 K:=K
 mg:=mg
 base:=base
 A:=A.deeper (envOfC qual scope s.heap.objs.size f cd)
 N:=N
 s₀:=s
 H₀:=H
 env:=envOfC qual scope s.heap.objs.size f cd
 outer:=outer
 stack:=envOfC qual scope s.heap.objs.size f cd::outer
 ex:=[]
 calm:=true
 fn:=fun _=>true
 pn:=[]
 xe:=fun e s'=>wpAny (model P w) (A.deeper (envOfC qual scope s.heap.objs.size f cd)) (leaving (envOfC qual scope s.heap.objs.size f cd) e) (fun _ s''=>CX outer H s E e s'') (fun e' s''=>CX outer H s E e' s'') s'
theorem Yr8{sc:Scope}{n:Nat}{x:Str}(h:sc.names.lookup x=some .cell):∃c,(cellsFrom n sc.names []).lookup x=some c:=by
 have q:=PySem.W.cellsFrom_some sc.names n [] (.inl h)
 exact Option.isSome_iff_exists.mp q
theorem Yut{CX:CXT}{P:Program}{w:World}{K:W.Frag}{mg:Str→Option Value}{base:Heap}{N ps:List Str}{qual:Str}{scope:Scope}{f:Addr}{cd:Value}{A:Around}{outer:List Env}{s s1:Shared}{H:Hp}{E:XK}{us:List Value}{vs:List V}
 (S:FnScope N ps scope) (hd:A.handled=none) (e0:Env0 P w K mg base A outer s H) (hl:vs.length=ps.length) (r:Vals vs us)
 (x:InCallC s s.heap.objs.size (bindL (envOfC qual scope s.heap.objs.size f cd).kindOf (ps.zip us) fun _=>none) (cellsFrom (s.heap.objs.size+1) scope.names []) (bindC (envOfC qual scope s.heap.objs.size f cd).kindOf (ps.zip us) fun _=>none) s1) :
 Inv (cxOf CX P w K mg base N qual scope f cd A outer s H E) [] (start N vs) H s1:=by
 have hpl:ps.length≤N.length:=by have:=congrArg List.length S.pre;rw[List.length_take]at this;lia
 obtain⟨h1,tk,rfl,hk⟩:=x.done
 have noA:∀b:Addr,b∉(cxOf CX P w K mg base N qual scope f cd A outer s H E).ex:=fun b z=>absurd (show b∈([]:List Addr) from z) (by simp)
 refine⟨⟨e0.mod,S.kind,rfl,rfl,qt _,fun y z c h1 h2=>?_,fun y hy=>?_,fun y c _ h=>?_,fun _=>hd,Around.frames_deeper e0.frames,.inr ⟨rfl,rfl⟩,fun b z=>absurd z (noA b),e0.bs,e0.bsz,fun b _ _=>noA b,fun b z=>absurd z (noA b),e0.funs,e0.frf⟩,
  rfl,e0.bare,Un.kept hk,⟨_,x.toInCall.ns,fun i y v h1 h2 h3=>?_⟩,fun y c h=>⟨_,x.cell y c h⟩,e0.hok.fresh (qt _),fun y c h=>?_,fun p hp=>absurd (show p∈([]:List (Addr × Obj)) from hp) (by simp),e0.hok.kept hk,?_⟩
 ·exact name_of_addr x.apart (PySem.mem_of_lookup h1) (PySem.mem_of_lookup h2)
 ·have hy:scope.names.lookup y=some .cell∨scope.names.lookup y=some .free:=hy
  rcases hy with hy | hy
  ·exact Yr8 hy
  ·exact absurd rfl (S.nofree _ (PySem.mem_of_lookup hy))
 ·exact Nat.le_of_lt (x.above y c (PySem.mem_of_lookup h))
 ·have hi:i < vs.length:=by
   unfold start at h2
   by_cases hi:i < vs.length
   ·exact hi
   ·rw[List.getElem?_append_right (by simpa using hi)]at h2
    rw[List.getElem?_replicate]at h2
    split at h2<;>cases h2
  have ha:vs[i]?=some v:=by
   unfold start at h2
   rw[List.getElem?_append_left (by simpa using hi),Qg]at h2
   cases e:vs[i]? with
   | none=>rw[e]at h2;cases h2
   | some a=>rw[e]at h2;cases h2;rfl
  obtain⟨u,hu,rv⟩:=r.get ha
  have hp:ps[i]?=some y:=by
   rw[←S.pre,List.getElem?_take_of_lt (by lia)];exact h1
  have ndP:ps.Nodup:=by rw[←S.pre];exact S.nd.sublist (List.take_sublist _ _)
  refine⟨u,rv,?_⟩
  rcases S.par y (List.mem_of_getElem? hp)with k | k
  ·exact .inl ⟨k,Yos ndP hp hu k⟩
  ·obtain⟨c,e⟩:=Yr8 (n:=s.heap.objs.size+1) k
   refine .inr ⟨.inl k,c,e,?_⟩
   have q:=x.cell y c e
   rw[Yot ndP hp hu (by show scope.names.lookup y≠_;rw[k];decide)]at q
   exact q
 ·exact e0.hok.fresh (Nat.le_of_lt (x.above y c (PySem.mem_of_lookup h)))
 ·unfold start
  show _=N.length
  rw[qy,qe,List.length_replicate]
  lia
theorem y6a{CX:CXT}{P:Program}{w:World}{K:W.Frag}{mg:Str→Option Value}{base:Heap}{k:Nat}{f:Addr}{name qual:Str}{params:Arguments}{body:List Stmt}{scope:Scope}{dV kV doc pm cdv ct oc:Value}{an od:Option Addr}
 {osl:Array (Option Value)} {N ps:List Str} {sp:Sp} (lk:K.lookup f=some ⟨oc,od,.func (W.fnOf name qual params body scope dV kV doc pm an cdv ct),osl⟩) (hcd:W.codeIn K cdv qual=true) (S:FnScope N ps scope)
 (len:∀vs H Q E,sp vs H Q E→vs.length=ps.length)
 (hbody:∀(A:Around) (outer:List Env) (s:Shared) (H:Hp) (vs:List V) (Q:VK) (E:XK),Room k (A.deeper (envOfC qual scope s.heap.objs.size f cdv))→sp vs H Q E→
  ∃t,PSs (cxOf CX P w K mg base N qual scope f cdv A outer s H E) body t∧t { nx:=fun _ H'=>Q .non H',rt:=Q } (start N vs) H) :
 FnOk P w K mg base CX (k+1) f (W.fnOf name qual params body scope dV kV doc pm an cdv ct) ps sp:=by
 refine⟨len,fun A outer s H args us vs Q E hr e0 hb r hsp=>?_⟩
 have hl:=len _ _ _ _ hsp
 have KX:K.In s.heap:=e0.mod.kin.keeps fun b o e=>(e0.bs b o e).1
 have lim:s.heap.NoLimit:=e0.mod.nolimit.keeps fun b o e=>(e0.bs b o e).1
 have hkind:∀y∈ps.zip us,scope.names.lookup y.1=some .local∨(scope.names.lookup y.1=some .cell∧((cellsFrom (s.heap.objs.size+1) scope.names []).lookup y.1).isSome=true):=fun⟨n,v⟩ hy=>by
  rcases S.par n (List.of_mem_zip hy).1 with q | q
  ·exact .inl q
  ·exact .inr ⟨q,PySem.W.cellsFrom_some _ _ _ (.inl q)⟩
 refine codeAny_call_function hr.depth (KX _ _ lk) rfl S.co S.gen rfl (W.codeRec_of KX hcd) (hb _ _ _ _ ?_)
 refine wpAny_newFunctionEnv_cells S.kind hkind fun env he s1 x=>?_
 subst he
 refine⟨lim.keeps x.toInCall.keep,codeAny_func ?_⟩
 obtain⟨t,ht,hq⟩:=hbody A outer s H vs Q E (hr.deeper _) hsp
 have I:Inv (cxOf CX P w K mg base N qual scope f cdv A outer s H E) [] (start N vs) H s1:=Yut S hr.hd e0 hl r x
 refine wpAny_mono (ht [] s1 (start N vs) H _ I hq) (fun fl s' hs=>?_) fun e s' hs=>hs
 have fin:∀{σ':St} {H':Hp} {v:V} {u:Value},Inv (cxOf CX P w K mg base N qual scope f cdv A outer s H E) [] σ' H' s'→RelV v u→Q v H'→CE outer P w H s Q u s':=
  fun {σ' H' v u} J rv q=>⟨v,H',J.os,J.bare,J.base,J.hok,rv,q⟩
 cases fl with
 | ret u=>
   obtain⟨v,σ',H',J,rv,q⟩:=hs
   exact fin J rv q
 | next=>
   obtain⟨σ',H',J,q⟩:=hs
   exact fin (v:=V.non) (u:=Value.none) J rfl q
 | brk=>
   obtain⟨_,_,_,q⟩:=hs
   exact False.elim q
 | cont=>
   obtain⟨_,_,_,q⟩:=hs
   exact False.elim q
end L2
namespace L2
open PySem PySem.Spec PyProof.Rows
section
variable {X:Cx} {x:Str} {p pos:Pos} {e:Expr} {es:List Expr} {t:TA} {id T:String} {r:List V→Hp→VK→Prop}
noncomputable def tCB(r:List V→Hp→VK→Prop)(t:TA):TE:=fun σ H Q=>t σ H fun vs H1=>r vs H1 Q
theorem Yjt(hc:Ydx X (.builtin id) r)(hg:Gl X x)(hm:X.mg x=none)(hv:bootBuiltins x=some (.builtin id))(ha:PA X (e::es) t)(hn:x≠"__name__":=by decide)(hdb:(x==("__debug__":Str))=false:=by decide)
 (he:starEach (e::es) X.env=(false,eval e X.env)::starEach es X.env:=by rfl) (hpl:(backTo pos (starEach es X.env)).any (·.1)=false:=by rfl):PE X (.Call (.Name x p) (e::es) [] pos) (tCB r t):=by
 intro pins s σ H Q I h
 refine wpAny_Call_Name_kw (Ymc I hg hm hv ?_ hn hdb)
 refine PyProof.Rows.callWith_builtin1 (thn (ha pos pins s σ H _ I h) fun us s1 hx_=>?_) he hpl
 obtain⟨vs,H1,I1,r1,q1⟩:=hx_
 exact hc pins s1 σ H1 vs us Q I1 r1 q1
theorem Yhv(hc:Ydx X (.type T) r)(hg:Gl X x)(hm:X.mg x=none)(hv:bootBuiltins x=some (.type T))(ha:PA X (e::es) t)(hn:x≠"__name__":=by decide)(hdb:(x==("__debug__":Str))=false:=by decide)
 (he:starEach (e::es) X.env=(false,eval e X.env)::starEach es X.env:=by rfl) (hpl:(backTo pos (starEach es X.env)).any (·.1)=false:=by rfl):PE X (.Call (.Name x p) (e::es) [] pos) (tCB r t):=by
 intro pins s σ H Q I h
 refine wpAny_Call_Name_kw (Ymc I hg hm hv ?_ hn hdb)
 refine PyProof.Rows.callWith_type1 (thn (ha pos pins s σ H _ I h) fun us s1 hx_=>?_) he hpl
 obtain⟨vs,H1,I1,r1,q1⟩:=hx_
 exact hc pins s1 σ H1 vs us Q I1 r1 q1
end
end L2
namespace L2
open PySem PySem.Spec PyProof.Rows
section
variable {κ:Type} [DecidableEq κ]
noncomputable def valV(kvs:List (κ × V))(k:κ):Option V:=(kvs.find? fun kv=>decide (kv.1=k)).map (·.2)
noncomputable def putK(kvs:List (κ × V))(k:κ)(v:V):List (κ × V):=
 if (kvs.any fun kv=>decide (kv.1=k))=true then kvs.map (fun kv=>if kv.1=k then (kv.1,v)else kv)else kvs++[(k,v)]
theorem Yju{p:κ × V}{r:List (κ × V)}{k:κ}(e:p.1=k):valV (p::r) k=some p.2:=by simp[valV,List.find?_cons,e]
theorem Yjv{p:κ × V}{r:List (κ × V)}{k:κ}(e:¬p.1=k):valV (p::r) k=valV r k:=by simp[valV,List.find?_cons,e]
theorem Yr9(k:κ):∀kvs:List (κ × V),(kvs.any fun kv=>decide (kv.1=k))=(valV kvs k).isSome
 | []=>rfl
 | p::r=>by
   rw[List.any_cons]
   by_cases e:p.1=k
   ·simp only[Yju e,decide_eq_true e,Bool.true_or,Option.isSome_some]
   ·rw[Yjv e,decide_eq_false e,Bool.false_or];exact Yr9 k r
theorem Yg8(kvs:List (κ × V))(k:κ)(v:V):(putK kvs k v).length≤kvs.length+1:=by
 unfold putK
 split
 ·rw[qe];lia
 ·rw[qy,qq,List.length_nil];lia
theorem RelO.isSome_eq{o:Option V}{u:Option Value}(r:RelO o u):o.isSome=u.isSome:=by
 cases o with
 | none=>cases u with
   | none=>rfl
   | some _=>exact(show False from r).elim
 | some _=>cases u with
   | none=>exact(show False from r).elim
   | some _=>rfl
theorem KV.val{kvs:List (κ × V)}{vs:List (κ × Value)}(r:KV kvs vs)(k:κ):RelO (valV kvs k) (valueAt vs k):=by
 unfold KV at r
 induction r with
 | nil=>exact True.intro
 | @cons p q ps qs h t ih=>
   obtain⟨h1,h2⟩:=h
   by_cases e:p.1=k
   ·have e':q.1=k:=h1.symm.trans e
    have b:valueAt (q::qs) k=some q.2:=by simp[valueAt,List.find?_cons,e']
    rw[Yju e,b];exact h2
   ·have e':¬q.1=k:=fun z=>e (h1.trans z)
    have b:valueAt (q::qs) k=valueAt qs k:=by simp[valueAt,List.find?_cons,e']
    rw[Yjv e,b];exact ih
theorem KV.any{kvs:List (κ × V)}{vs:List (κ × Value)}(r:KV kvs vs)(k:κ):(kvs.any fun kv=>decide (kv.1=k))=vs.any fun kv=>decide (kv.1=k):=by
 unfold KV at r
 induction r with
 | nil=>rfl
 | cons h t ih=>rw[List.any_cons,List.any_cons,ih,h.1]
theorem KV.repl{kvs:List (κ × V)}{vs:List (κ × Value)}(r:KV kvs vs)(k:κ){y:V}{u:Value}(ry:RelV y u) :
 KV (kvs.map fun kv=>if kv.1=k then (kv.1,y)else kv) (vs.map fun kv=>if kv.1=k then (kv.1,u)else kv):=by
 unfold KV at r ⊢
 induction r with
 | nil=>exact .nil
 | @cons p q ps qs h t ih=>
   rw[Qc,Qc]
   refine .cons ?_ ih
   obtain⟨h1,h2⟩:=h
   by_cases e:p.1=k
   ·rw[if_pos e,if_pos (h1.symm.trans e)];exact⟨h1,ry⟩
   ·rw[if_neg e,if_neg (fun z=>e (h1.trans z))];exact⟨h1,h2⟩
theorem KV.put{kvs:List (κ × V)}{vs:List (κ × Value)}(r:KV kvs vs)(k:κ){y:V}{u:Value}(ry:RelV y u):KV (putK kvs k y) (stored vs k u):=by
 unfold putK stored
 rw[r.any k]
 by_cases e:(vs.any fun kv=>decide (kv.1=k))=true
 ·rw[if_pos e,if_pos e];exact r.repl k ry
 ·rw[if_neg e,if_neg e];exact Paired.snoc r ⟨rfl,ry⟩
theorem KV.length{kvs:List (κ × V)}{vs:List (κ × Value)}(r:KV kvs vs):kvs.length=vs.length:=Paired.length r
end
theorem Yuu{P:Program}{w:World}{k:Key}{u:Value}(r:RelV (kV k) u):(Yao P w).is k u=true:=by
 cases k with
 | inl i=>obtain⟨t,e⟩:=(show ∃t,u=Value.int i t from r);subst e;exact Yqq P w i t
 | inr x=>obtain⟨t,e⟩:=(show ∃t,u=Value.str x t from r);subst e;exact Yqr P w x t
theorem You{P:Program}{w:World}:∀{ks:List Key} {us:List Value},Vals (ks.map kV) us→ItemsAre (Yao P w) ks us
 | [],_,r=>by rw[List.map_nil]at r;cases r;exact .nil
 | k::ks,_,r=>by
   rw[Qc]at r
   cases r with
   | cons h t=>exact .cons (Yuu h) (You t)
noncomputable abbrev KT(H:Hp):List (List Key × V)→List (List Key × Addr × Value)→Prop:=Paired fun p q=>p.1=q.1∧H q.2.1=some (.tup (p.1.map kV))∧RelV p.2 q.2.2
theorem KT.val{H:Hp}{kvs:List (List Key × V)}{xs:List (List Key × Addr × Value)}(r:KT H kvs xs)(k:List Key):RelO (valV kvs k) ((atKey xs k).map (·.2)):=by
 induction r with
 | nil=>exact True.intro
 | @cons p q ps qs h t ih=>
   obtain⟨h1,_,h2⟩:=h
   by_cases e:p.1=k
   ·have e':q.1=k:=h1.symm.trans e
    have b:atKey (q::qs) k=some q.2:=by simp[atKey,List.find?_cons,e']
    rw[Yju e,b];exact h2
   ·have e':¬q.1=k:=fun z=>e (h1.trans z)
    have b:atKey (q::qs) k=atKey qs k:=by simp[atKey,List.find?_cons,e']
    rw[Yjv e,b];exact ih
theorem KT.repl{H:Hp}{kvs:List (List Key × V)}{xs:List (List Key × Addr × Value)}(r:KT H kvs xs)(k:List Key){y:V}{u:Value}(ry:RelV y u) :
 KT H (kvs.map fun kv=>if kv.1=k then (kv.1,y)else kv) (xs.map (putAt k u)):=by
 induction r with
 | nil=>exact .nil
 | @cons p q ps qs h t ih=>
   rw[Qc,Qc]
   refine .cons ?_ ih
   obtain⟨h1,h2,h3⟩:=h
   unfold putAt
   by_cases e:p.1=k
   ·rw[if_pos e,if_pos (h1.symm.trans e)];exact⟨h1,h2,ry⟩
   ·rw[if_neg e,if_neg (fun z=>e (h1.trans z))];exact⟨h1,h2,h3⟩
theorem KT.put{H:Hp}{kvs:List (List Key × V)}{xs:List (List Key × Addr × Value)}(r:KT H kvs xs)(k:List Key){b:Addr}{y:V}{u:Value}(hb:H b=some (.tup (k.map kV)))(ry:RelV y u) :
 KT H (putK kvs k y) (storedH xs k b u):=by
 have e:(kvs.any fun kv=>decide (kv.1=k))=(atKey xs k).isSome:=by
  rw[Yr9,(r.val k).isSome_eq,Option.isSome_map]
 unfold putK storedH
 rw[e]
 by_cases q:(atKey xs k).isSome=true
 ·rw[if_pos q,if_pos q];exact r.repl k ry
 ·rw[if_neg q,if_neg q];exact Paired.snoc r ⟨rfl,hb,ry⟩
theorem KT.keeps{H H':Hp}{kvs:List (List Key × V)}{xs:List (List Key × Addr × Value)}(r:KT H kvs xs)(ht:∀b ys,H b=some (.tup ys)→H' b=some (.tup ys)):KT H' kvs xs:=
 Paired.mapP r fun _ _ z=>⟨z.1,ht _ _ z.2.1,z.2.2⟩
section
variable {P:Program} {w:World} {H:Hp} {h:Heap} {a:Addr}
theorem y3b{u:HO}(ok:HOk P w H h)(e:Rd H a u):ObjOk P w H h a u:=e.ok ok
theorem Yxl{kvs:List (Key × V)}(ok:HOk P w H h)(e:Rd H a (.dK kvs)):kvs.length≤sizeLine∧(a==sysModules)=false∧∃vs,KV kvs vs∧h.DictOf (Yao P w) a vs:=
 show ObjOk P w H h a (.dK kvs) from y3b ok e
theorem y3c{kvs:List (Key × V)}(ok:HOk P w H h)(e:H a=some (.dK kvs)):kvs.length≤sizeLine∧(a==sysModules)=false∧∃vs,KV kvs vs∧h.DictOf (Yao P w) a vs:=Yxl ok (.inl e)
theorem Ysa{ks:List Key}(ok:HOk P w H h)(e:H a=some (.tup (ks.map kV))):(tupleKind (Yao P w)).is h ks a:=by
 obtain⟨_,its,r,o,h1,h2,n,h3⟩:=(show ObjOk P w H h a (.tup (ks.map kV)) from ok a _ e)
 exact⟨o,its.toArray,n,h1,h2,h3,by simpa using You r⟩
theorem Yz9{kvs:List (List Key × V)}(ok:HOk P w H h)(e:Rd H a (.dT kvs)):kvs.length≤sizeLine∧(a==sysModules)=false∧
 ∃xs,KT H kvs xs∧h.DictOfH (tupleKind (Yao P w)) a xs:=by
 obtain⟨z,y,xs,r,o,es,ep,h1,h2,h3,h4,h5⟩:=(show ObjOk P w H h a (.dT kvs) from y3b ok e)
 refine⟨z,y,xs,r,o,es,ep,h1,h2,h3,h4,fun x hx=>?_,h5⟩
 have all:∀{l:List (List Key × V)} {m:List (List Key × Addr × Value)},KT H l m→∀x∈m,(tupleKind (Yao P w)).is h x.1 x.2.1:=by
  intro l m q
  induction q with
  | nil=>intro x hx;exact nomatch hx
  | @cons p q ps qs hq t ih=>
    intro x hx
    rcases qr hx with e | hx
    ·subst e
     exact Ysa ok (by rw[←hq.1];exact hq.2.1)
    ·exact ih x hx
 exact all r x hx
theorem y6b{kvs:List (List Key × V)}(ok:HOk P w H h)(e:H a=some (.dT kvs)):kvs.length≤sizeLine∧(a==sysModules)=false∧
 ∃xs,KT H kvs xs∧h.DictOfH (tupleKind (Yao P w)) a xs:=Yz9 ok (.inl e)
end
def DGet(H:Hp)(a:Addr)(y:V)(r:Option V):Prop:=
 (∃kvs k,Rd H a (.dK kvs)∧y=kV k∧r=valV kvs k)∨∃kvs k b,Rd H a (.dT kvs)∧y=.ref b∧H b=some (.tup (k.map kV))∧r=valV kvs k
def DPut(H:Hp)(a:Addr)(y v:V)(H':Hp):Prop:=
 (∃kvs k,H a=some (.dK kvs)∧y=kV k∧kvs.length < sizeLine∧H'=upd H a (.dK (putK kvs k v)))∨
 ∃kvs k b,H a=some (.dT kvs)∧y=.ref b∧H b=some (.tup (k.map kV))∧kvs.length < sizeLine∧H'=upd H a (.dT (putK kvs k v))
theorem DGet.k{H:Hp}{a:Addr}{kvs:List (Key × V)}{k:Key}(e:H a=some (.dK kvs)):DGet H a (kV k) (valV kvs k):=.inl ⟨kvs,k,.inl e,rfl,rfl⟩
theorem DPut.k{H:Hp}{a:Addr}{kvs:List (Key × V)}{k:Key}{v:V}(e:H a=some (.dK kvs))(hl:kvs.length < sizeLine):DPut H a (kV k) v (upd H a (.dK (putK kvs k v))):=.inl ⟨kvs,k,e,rfl,hl,rfl⟩
section
variable {X:Cx} {pins:List (Addr × Obj)} {σ:St} {H:Hp} {s:Shared} {a:Addr} {y v:V} {u r:Value} {o:Option V} {A:Around} {E:Value→Shared→Prop}
theorem Inv.big(I:Inv X pins σ H s):sysModules < s.heap.objs.size:=by
 have h:mainGlobals < s.heap.objs.size:=(I.mod.glob.keeps I.bk).lt
 exact Nat.lt_trans (by decide) h
theorem d_in{Q:Value→Shared→Prop}(hu:A.units+1 < cLine)(I:Inv X pins σ H s)(g:DGet H a y o)(ry:RelV y u)(h:∀s',Inv X pins σ H s'→Q (.bool o.isSome) s') :
 wpAny (model X.prog X.w) A (compareOp .In u (.ref a)) Q E s:=by
 rcases g with⟨kvs,k,e,ey,l⟩ | ⟨kvs,k,b,e,ey,eb,l⟩
 ·subst ey
  obtain⟨z,hd,vs,rel,dd⟩:=Yxl I.hok e
  refine wpAny_in_of (Yuu ry) hd dd.mapOf ?_
  rw[←(rel.val k).isSome_eq,←l]
  exact h _ (I.tok _)
 ·subst ey
  cases (show u=Value.ref b from ry)
  obtain⟨z,hd,xs,rel,dd⟩:=Yz9 I.hok e
  refine wpAny_in_heap (tupleKind_room_in1 hu) (Ysa I.hok eb) hd dd ?_
  have q:=(rel.val k).isSome_eq
  rw[Option.isSome_map]at q
  rw[←q,←l]
  exact h _ (I.tok _)
theorem y0a{Q:Value→Shared→Prop}(hu:A.units+1 < cLine)(I:Inv X pins σ H s)(g:DGet H a y o)(ry:RelV y u)(h:∀s',Inv X pins σ H s'→Q (.bool (!o.isSome)) s') :
 wpAny (model X.prog X.w) A (compareOp .NotIn u (.ref a)) Q E s:=by
 rcases g with⟨kvs,k,e,ey,l⟩ | ⟨kvs,k,b,e,ey,eb,l⟩
 ·subst ey
  obtain⟨z,hd,vs,rel,dd⟩:=Yxl I.hok e
  refine wpAny_notIn_of (Yuu ry) hd dd.mapOf ?_
  rw[←(rel.val k).isSome_eq,←l]
  exact h _ (I.tok _)
 ·subst ey
  cases (show u=Value.ref b from ry)
  obtain⟨z,hd,xs,rel,dd⟩:=Yz9 I.hok e
  refine wpAny_notIn_heap (tupleKind_room_in1 hu) (Ysa I.hok eb) hd dd ?_
  have q:=(rel.val k).isSome_eq
  rw[Option.isSome_map]at q
  rw[←q,←l]
  exact h _ (I.tok _)
theorem Yuv{h':Heap}{t':Nat}{ob:HO}(I:Inv X pins σ H s)(mu:Mut (H a))(hs:Heap.SameBut a s.heap h')(he:∃q,h'.get? a=some q)(new:ObjOk X.prog X.w (upd H a ob) h' a ob) :
 Inv X pins σ (upd H a ob) { s with heap:=h',toks:=t' }:=
 I.write (x:=a) (e:=a) mu (.inl rfl) (fun b q hb z=>(hs.2 b hb).trans z) he new
theorem Yy8{P:Program}{w:World}{H':Hp}{h':Heap}{kvs:List (Key × V)}{vs:List (Key × Value)}(z:kvs.length≤sizeLine)(hd:(a==sysModules)=false)(rel:KV kvs vs)(dd:h'.DictOf (Yao P w) a vs) :
 ObjOk P w H' h' a (.dK kvs):=⟨z,hd,vs,rel,dd⟩
theorem Yuw{H':Hp}{Q:Unit→Shared→Prop}(hu:A.units+1 < cLine)(I:Inv X pins σ H s)(g:DPut H a y v H')(ry:RelV y u)(rv:RelV v r)(h:∀s',Inv X pins σ H' s'→Q () s') :
 wpAny (model X.prog X.w) A (setItem (.ref a) u r) Q E s:=by
 rcases g with⟨kvs,k,e,ey,l,eH⟩ | ⟨kvs,k,b,e,ey,eb,l,eH⟩
 ·subst ey eH
  obtain⟨z,hd,vs,rel,dd⟩:=y3c I.hok e
  have hz:vs.length≤sizeLine:=by rw[←rel.length];exact z
  have hl:(putK kvs k v).length≤sizeLine:=by have:=Yg8 kvs k v;lia
  refine wpAny_setItem_pairs (hsz:=hz) (Yuu ry) dd fun h' dd' hs=>h _ ?_
  have he:∃q,h'.get? a=some q:=let ⟨q,_,_,hq,_⟩:=dd';⟨q,hq⟩
  exact Yuv I (by rw[e];exact True.intro) hs he (Yy8 hl hd (rel.put k rv) dd')
 ·subst ey eH
  cases (show u=Value.ref b from ry)
  obtain⟨z,hd,xs,rel,dd⟩:=y6b I.hok e
  have hz:xs.length≤sizeLine:=by rw[←Paired.length rel];exact z
  have hl:(putK kvs k v).length≤sizeLine:=by have:=Yg8 kvs k v;lia
  refine wpAny_setItem_heap (hsz:=hz) (tupleKind_room_in1 hu) (Ysa I.hok eb) dd fun h' dd' hs=>h _ ?_
  obtain⟨q,es,ep,hq,h2,h3,h4,_,h5⟩:=dd'
  refine Yuv I (by rw[e];exact True.intro) hs ⟨q,hq⟩ ⟨hl,hd,_,(rel.put k eb rv).keeps fun c ys ec=>?_,q,es,ep,hq,h2,h3,h4,h5⟩
  rw[y4 (y5u ec e (fun z=>nomatch z))]
  exact ec
end
noncomputable def Yy9:List (TE × TE)→St→Hp→(List (V × V)→Hp→Prop)→Prop
 | [],_,H,Q=>Q [] H
 | (tk,tv)::r,σ,H,Q=>tk σ H fun x H1=>tv σ H1 fun y H2=>Yy9 r σ H2 fun ps H3=>Q ((x,y)::ps) H3
noncomputable abbrev VV:List (V × V)→List (Value × Value)→Prop:=Paired fun p q=>RelV p.1 q.1∧RelV p.2 q.2
def PPs(X:Cx)(pos:Pos)(keys:List (Option Expr))(values:List Expr)(trs:List (TE × TE)):Prop:=
 ∀(pins:List (Addr × Obj)) (s:Shared) (σ:St) (H:Hp) (Q:List (V × V)→Hp→Prop),Inv X pins σ H s→Yy9 trs σ H Q→
  wpAny (model X.prog X.w) X.A (evalPairs (pairTrees keys values X.env pos)) (fun vs s'=>∃ps H',Inv X pins σ H' s'∧VV ps vs∧Q ps H') X.xe s
structure M1(X:Cx)(o:Expr)(m:Str)(apos:Pos)(e:Expr)(cpos:Pos):Prop where
 base:attributeBase o m X.env (eval o X.env)=eval o X.env
 few:((backTo cpos (starEach [e] X.env)).all (fun x=>!x.1)&&(backToKw cpos (keywordEach [] X.env)).all (fun x=>x.1.isSome)
  &&decide (([e]:List Expr).length+([]:List Keyword).length+(if ([]:List Keyword).isEmpty then 0 else 1) < 30))=true
 line:(apos.endLine==cpos.line)=true
 trees:backTo cpos (starEach [e] X.env)=[(false,eval e X.env)]
structure M2(X:Cx)(o:Expr)(m:Str)(apos:Pos)(e f:Expr)(cpos:Pos):Prop where
 base:attributeBase o m X.env (eval o X.env)=eval o X.env
 few:((backTo cpos (starEach [e,f] X.env)).all (fun x=>!x.1)&&(backToKw cpos (keywordEach [] X.env)).all (fun x=>x.1.isSome)
  &&decide (([e,f]:List Expr).length+([]:List Keyword).length+(if ([]:List Keyword).isEmpty then 0 else 1) < 30))=true
 line:(apos.endLine==cpos.line)=true
 trees:backTo cpos (starEach [e,f] X.env)=[(false,eval e X.env),(false,eval f X.env)]
end L2
namespace HT
open PySem PyProof.Rows
section
variable {prog:Program} {w:World} {A:Around} {E:Value→Shared→Prop} {s:Shared}
theorem cat_tup{t b:Addr}{vs ws:List Value}{Q:Value→Shared→Prop}(ht:IsTup s.heap t vs.toArray)(hb:IsTup s.heap b ws.toArray)(hv:vs≠[])
 (h1:ws=[]→Q (.ref t) s) (h2:ws≠[]→Q (.ref s.heap.objs.size) { s with heap:=s.heap.push { cls:=.type "tuple",data:=.seq (vs++ws).toArray } })
 (hsz:vs.length+ws.length≤sizeLine):wpAny (model prog w) A (binaryOp .Add (.ref t) (.ref b)) Q E s:=by
 obtain⟨⟨cls,dd,data,sl⟩,ho,hc,n,hd⟩:=id ht
 obtain⟨⟨cls2,dd2,data2,sl2⟩,ho2,hc2,n2,hd2⟩:=id hb
 simp only at hc hd hc2 hd2
 subst hc hd hc2 hd2
 have e:vs.toArray++ws.toArray=(vs++ws).toArray:=by simp
 by_cases hw:ws=[]
 ·exact concat_meets ⟨_,ho,rfl⟩ ⟨_,ho2,rfl⟩ noFill_tuple_add seq_tuple_add PySem.F.slot_tuple_add PySem.F.entry_tuple_add (PySem.F.args_tuple_add_2 _ _)
   (tuple_addW1 t b vs.toArray ws.toArray n n2 dd dd2 sl sl2 (by simpa using hv) (by simp[hw])) ⟨ho,ho2,h1 hw⟩
 ·refine concat_meets ⟨_,ho,rfl⟩ ⟨_,ho2,rfl⟩ noFill_tuple_add seq_tuple_add PySem.F.slot_tuple_add PySem.F.entry_tuple_add (PySem.F.args_tuple_add_2 _ _)
   (tuple_addW2 t b vs.toArray ws.toArray n n2 dd dd2 sl sl2 (by simpa using hv) (by simpa using hw) (by rw[qj,qj];exact hsz)) ⟨ho,ho2,?_⟩
  rw[e]
  exact h2 hw
noncomputable def sIx(n d:Nat):Option Int→Nat
 | none=>d
 | some v=>if v < 0 then (v+(n:Int)).toNat else min v.toNat n
theorem sIx_none(n d:Nat):sIx n d none=d:=rfl
theorem sIx_nat(n d k:Nat):sIx n d (some (k:Int))=min k n:=by
 show(if (k:Int) < 0 then ((k:Int)+(n:Int)).toNat else min (k:Int).toNat n)=min k n
 rw[if_neg (by lia),Int.toNat_natCast]
theorem y3d(n d:Nat)(hd:d≤n)(o:Option Int):sIx n d o≤n:=by
 cases o with
 | none=>exact hd
 | some v=>
   show(if v < 0 then (v+(n:Int)).toNat else min v.toNat n)≤n
   by_cases hv:v < 0
   ·rw[if_pos hv];lia
   ·rw[if_neg hv];exact Nat.min_le_right _ _
theorem Yux(v:Int)(n d:Nat):(if v < 0 then max (v+(n:Int)) 0 else min v (n:Int))=((sIx n d (some v):Nat):Int):=by
 show(if v < 0 then max (v+(n:Int)) 0 else min v (n:Int))=(((if v < 0 then (v+(n:Int)).toNat else min v.toNat n):Nat):Int)
 by_cases hv:v < 0
 ·simp only[if_pos hv];lia
 ·simp only[if_neg hv];lia
theorem Ytd(lo hi:Option Int)(n:Nat):Builtin.Slice.sliceAdjust lo hi 1 (n:Int)=(((sIx n 0 lo:Nat):Int),((sIx n n hi:Nat):Int)):=by
 have h1:¬((1:Int) < 0):=by lia
 unfold Builtin.Slice.sliceAdjust
 simp only[h1,if_false]
 refine Prod.ext ?_ ?_
 ·cases lo with
  | none=>rfl
  | some v=>exact Yux v n 0
 ·cases hi with
  | none=>rfl
  | some v=>exact Yux v n n
theorem Yte(i j:Nat):Builtin.Slice.slicePlaces (i:Int) (j:Int) 1=j - i:=by
 unfold Builtin.Slice.slicePlaces
 have h1:(1:Int) > 0:=by lia
 simp only[h1,if_true,Int.ediv_one]
 split<;>lia
theorem Ymf{v:Value}{o:Option Int}{Q:Option Int→Shared→Prop}(p:IsPart v o)(h:Q o s):wpAny (model prog w) A (Builtin.Slice.slicePartIndex v) Q E s:=by
 cases p with
 | none=>exact slicePart_none h
 | int i t=>exact slicePart_int h
theorem sliceApplied_gen{sl:Addr}{vl vu:Value}{lo hi:Option Int}{n:Nat}{Q:Int × Int × Nat→Shared→Prop}(hs:s.heap.IsSliceOf sl vl vu .none)(pl:IsPart vl lo)(pu:IsPart vu hi)
 (h:Q (((sIx n 0 lo:Nat):Int),1,sIx n n hi - sIx n 0 lo) s):wpAny (model prog w) A (Builtin.Slice.sliceApplied (.ref sl) (pure (n:Int))) Q E s:=by
 obtain⟨os,hos,hcs,hds⟩:=id hs
 unfold Builtin.Slice.sliceApplied Builtin.Slice.sliceFields
 refine wpAny_bind (wpAny_bind (wpAny_field hos hds (x:=vl) rfl (wpAny_bind (wpAny_field hos hds (x:=vu) rfl (wpAny_bind (wpAny_field hos hds (x:=.none) rfl (wpAny_pure ?_)))))))
 refine wpAny_bind (slicePart_none ?_)
 show wpAny _ _ (if ((1:Int)==0)=true then _ else _) _ _ s
 rw[if_neg (by decide)]
 refine wpAny_bind (Ymf pl (wpAny_bind (Ymf pu (wpAny_bind (wpAny_pure ?_)))))
 show wpAny _ _ (match Builtin.Slice.sliceAdjust lo hi 1 (n:Int)with | (lo,hi)=>pure (lo,(1:Int),Builtin.Slice.slicePlaces lo hi 1)) _ _ s
 rw[Ytd lo hi n]
 show wpAny _ _ (pure (((sIx n 0 lo:Nat):Int),(1:Int),Builtin.Slice.slicePlaces ((sIx n 0 lo:Nat):Int) ((sIx n n hi:Nat):Int) 1)) _ _ s
 rw[Yte]
 exact wpAny_pure h
theorem Yxm(xs:Array Value)(i k:Nat):((List.range k).filterMap fun(m:Nat)=>xs[((i:Int)+(m:Int) * 1).toNat]?).toArray=((xs.toList.drop i).take k).toArray:=by
 have e:(fun(m:Nat)=>xs[((i:Int)+(m:Int) * 1).toNat]?)=fun m=>xs[i+m]?:=by
  funext m
  have:((i:Int)+(m:Int) * 1).toNat=i+m:=by lia
  rw[this]
 rw[e]
 have:=pick_run xs i k
 rw[List.filterMap_map]at this
 have e2:((fun x=>xs[x]?) ∘ fun x=>i+x)=fun m=>xs[i+m]?:=rfl
 rw[e2]at this
 rw[this]
theorem getItem_tuple_cut{t sl:Addr}{items:Array Value}{vl vu:Value}{lo hi:Option Int}{Q:Value→Shared→Prop}(ht:IsTup s.heap t items)(hs:s.heap.IsSliceOf sl vl vu .none)(pl:IsPart vl lo)(pu:IsPart vu hi)
 (hw:¬(sIx items.size 0 lo=0∧sIx items.size items.size hi=items.size))
 (h:Q (.ref s.heap.objs.size) { s with heap:=s.heap.push { cls:=.type "tuple",data:=.seq ((items.toList.drop (sIx items.size 0 lo)).take (sIx items.size items.size hi - sIx items.size 0 lo)).toArray } })
 (hsz:items.size≤sizeLine):wpAny (model prog w) A (getItem (.ref t) (.ref sl)) Q E s:=by
 have htake:sizeOk (.seq ((items.toList.drop (sIx items.size 0 lo)).take (sIx items.size items.size hi - sIx items.size 0 lo)).toArray):=by
  show((items.toList.drop (sIx items.size 0 lo)).take (sIx items.size items.size hi - sIx items.size 0 lo)).toArray.size≤sizeLine
  rw[qj,List.length_take,List.length_drop,qi]
  lia
 have hj:sIx items.size items.size hi≤items.size:=y3d _ _ (qt _) hi
 obtain⟨os,hos,hcs,hds⟩:=id hs
 have hTs:s.TypeIs (.ref sl) "slice":=⟨os,hos,hcs⟩
 unfold getItem
 try with_reducible refine wpAny_holding ?_
 first | refine wpAny_bind (wpAny_pure ?_) | skip
 refine wpAny_bind (wpAny_sequenceKey ht.typeIs (by decide) ?_)
 refine wpAny_bind (wpAny_callSpecial?_slot (name:=Str.ofString "__getitem__") ht.typeIs PyProof.Rows.slot_tuple_getitem
  (wpAny_call_entry PyProof.Rows.slot_tuple_getitem ht.typeIs entry_tuple_getitem ?_ (args_tuple_getitem _ _)))
 show wpAny _ _ (Builtin.Tuple.tupleItemsOf (.ref t) >>= _) _ _ s
 refine wpAny_bind (tupleItemsOf_ ht ?_)
 refine wpAny_bind (wpAny_typeOf hTs ?_)
 rw[if_pos (by decide)]
 refine wpAny_bind (sliceApplied_gen hs pl pu ?_)
 have hno:¬((((sIx items.size 0 lo:Nat):Int)==0&&(1:Int)==1&&(sIx items.size items.size hi - sIx items.size 0 lo)==items.size)=true):=by
  intro q
  rw[Qd,Qd]at q
  have q1:((sIx items.size 0 lo:Nat):Int)=0:=eq_of_beq q.1.1
  have q2:sIx items.size items.size hi - sIx items.size 0 lo=items.size:=eq_of_beq q.2
  exact hw ⟨by lia,by lia⟩
 show wpAny _ _ (if (((sIx items.size 0 lo:Nat):Int)==0&&(1:Int)==1&&(sIx items.size items.size hi - sIx items.size 0 lo)==items.size)=true then _ else _) _ _ s
 rw[if_neg hno,Yxm]
 first
  | exact wpAny_bind (m:=Builtin.Tuple.tupleExact _) (wpAny_newObj_type (wpAny_pure ⟨_,rfl,wpAny_pure h⟩) htake)
  | exact wpAny_bind (m:=Builtin.Tuple.tupleExact _) (wpAny_newObj_type (wpAny_bind (wpAny_pure (wpAny_pure ⟨_,rfl,wpAny_pure h⟩))) htake)
  | exact wpAny_bind (wpAny_bind (m:=Builtin.Tuple.tupleExact _) (wpAny_newObj_type (wpAny_pure (wpAny_pure ⟨_,rfl,wpAny_pure h⟩)) htake))
  | exact wpAny_bind (wpAny_bind (m:=Builtin.Tuple.tupleExact _) (wpAny_newObj_type (wpAny_pure ⟨_,rfl,wpAny_pure h⟩) htake))
end
end HT
namespace L2
open PySem PySem.Spec PyProof.Rows
noncomputable abbrev TO:=St→Hp→(Option Int→Hp→Prop)→Prop
def PO(X:Cx)(e:Option Expr)(t:TO):Prop:=
 ∀(pins:List (Addr × Obj)) (s:Shared) (σ:St) (H:Hp) (Q:Option Int→Hp→Prop),Inv X pins σ H s→t σ H Q→
  wpAny (model X.prog X.w) X.A (evalPart e X.env) (fun u s'=>∃o H',Inv X pins σ H' s'∧IsPart u o∧Q o H') X.xe s
noncomputable def Yuy:TO:=fun _ H Q=>Q none H
noncomputable def y3e(t:TE):TO:=fun σ H Q=>t σ H fun x H1=>∃i,x=.int i∧Q (some i) H1
theorem Ygl{ns:List Int}:∀{us:List Value},Vals (ns.map V.int) us→IntsAre us ns:=by
 induction ns with
 | nil=>intro us r;rw[List.map_nil]at r;cases r;exact .nil
 | cons n ns ih=>
   intro us r
   rw[Qc]at r
   cases r with
   | cons r1 r2=>
     obtain⟨t,e⟩:=r1
     subst e
     exact .cons n t (ih r2)
section
variable {X:Cx} {e:Expr} {te:TE} {lo hi:Option Expr} {tl th:TO} {pos p2:Pos}
theorem y0b:PO X none Yuy:=by
 intro pins s σ H Q I h
 rw[evalPart_none]
 exact wpAny_pure ⟨none,H,I,.none,h⟩
theorem y0c(h:PE X e te):PO X (some e) (y3e te):=by
 intro pins s σ H Q I hw
 rw[evalPart_some]
 refine thn (h pins s σ H _ I hw) fun u s1 hx_=>?_
 obtain⟨x,H1,I1,r1,q1⟩:=hx_
 obtain⟨i,rfl,q⟩:=q1
 obtain⟨t,rfl⟩:=r1
 exact⟨some i,H1,I1,.int i t,q⟩
def SlR(X:Cx)(r:V→Option Int→Option Int→Hp→VK→Prop):Prop:=
 ∀(pins:List (Addr × Obj)) (s:Shared) (σ:St) (H:Hp) (x:V) (v vl vu:Value) (lo hi:Option Int) (sl:Addr) (Q:VK),Inv X pins σ H s→RelV x v→s.heap.IsSliceOf sl vl vu .none→IsPart vl lo→IsPart vu hi→r x lo hi H Q→
  ∃T id,typeLookup (.type T) "__getitem__"=pure (some (.builtin id))∧s.TypeIs v T∧wpAny (model X.prog X.w) X.A (getItem v (.ref sl)) (EP X pins σ Q) X.xe s
theorem SlR.or{r r':V→Option Int→Option Int→Hp→VK→Prop}(h:SlR X r)(h':SlR X r'):SlR X (fun x lo hi H Q=>r x lo hi H Q∨r' x lo hi H Q):=by
 intro pins s σ H x v vl vu lo hi sl Q I rx hs pl pu q
 rcases q with q | q
 ·exact h pins s σ H x v vl vu lo hi sl Q I rx hs pl pu q
 ·exact h' pins s σ H x v vl vu lo hi sl Q I rx hs pl pu q
noncomputable def tSl(r:V→Option Int→Option Int→Hp→VK→Prop)(te:TE)(tl th:TO):TE:=fun σ H Q=>te σ H fun x H1=>tl σ H1 fun l H2=>th σ H2 fun u H3=>r x l u H3 Q
theorem Ysb{r:V→Option Int→Option Int→Hp→VK→Prop}(hr:SlR X r)(he:PE X e te)(hl:PO X lo tl)(hu:PO X hi th):PE X (.Subscript e (.Slice lo hi none p2) pos) (tSl r te tl th):=by
 intro pins s σ H Q I h
 refine Subscript_ (thn (he pins s σ H _ I h) fun v s1 hx_=>?_)
 obtain⟨x,H1,I1,r1,q1⟩:=hx_
 refine wpAny_Slice (thn (hl pins s1 σ H1 _ I1 q1) fun vl s2 hx_=>?_)
 obtain⟨l,H2,I2,pl,q2⟩:=hx_
 refine thn (hu pins s2 σ H2 _ I2 q2) fun vu s3 hx_=>?_
 obtain⟨u,H3,I3,pu,q3⟩:=hx_
 rw[evalPart_none]
 refine wpAny_pure ?_
 have I4:Inv X pins σ H3 { s3 with heap:=s3.heap.push { cls:=.type "slice",data:=.fields #[vl,vu,.none] } }:=I3.kept (t':=s3.toks) fun b ob q=>qd _ q
 obtain⟨T,id,hT,ht,hg⟩:=hr pins { s3 with heap:=s3.heap.push { cls:=.type "slice",data:=.fields #[vl,vu,.none] } } σ H3 x v vl vu l u s3.heap.objs.size Q I4 r1 (Heap.IsSliceOf.new ..) pl pu q3
 show wpAny (model X.prog X.w) X.A (subscriptTail e (.Slice lo hi none p2) v (.ref s3.heap.objs.size)) (EP X pins σ Q) X.xe { s3 with heap:=s3.heap.push { cls:=.type "slice",data:=.fields #[vl,vu,.none] } }
 exact tail_any (ops:=[.ref s3.heap.objs.size,v]) ht hT hg (by with_unfolding_all rfl)
noncomputable def cutV(xs:List V)(lo hi:Option Int):List V:=(xs.drop (HT.sIx xs.length 0 lo)).take (HT.sIx xs.length xs.length hi - HT.sIx xs.length 0 lo)
theorem Yj1(xs:List V)(lo hi:Option Int):(cutV xs lo hi).length≤xs.length:=by
 unfold cutV
 rw[List.length_take,List.length_drop]
 lia
noncomputable def rSlT(K:W.Frag):V→Option Int→Option Int→Hp→VK→Prop:=fun x lo hi H Q=>∃a xs,x=.ref a∧SqT K H a xs∧
 ¬(HT.sIx xs.length 0 lo=0∧HT.sIx xs.length xs.length hi=xs.length)∧∀p,H p=none→Q (.ref p) (upd H p (.tup (cutV xs lo hi)))
theorem y3f:SlR X (rSlT X.K):=by
 intro pins s σ H x v vl vu lo hi sl Q I rx hs pl pu h
 obtain⟨a,xs,rfl,hx,hw,q⟩:=h
 cases rx
 obtain⟨its,r,ht,hz⟩:=I.tuple hx
 have hlen:its.toArray.size=xs.length:=by rw[qj];exact r.length.symm
 refine⟨"tuple",_,PyProof.Rows.slot_tuple_getitem.lookup,ht.typeIs,?_⟩
 refine HT.getItem_tuple_cut ht hs pl pu (by rw[hlen];exact hw) ?_ (by rw[hlen];exact hz)
 rw[hlen]
 refine⟨.ref s.heap.objs.size,_,I.laid (t':=s.toks) (o:=.tup (cutV xs lo hi)) (fun b ob q=>qd _ q) (qt _) ?_,rfl,q _ (I.hok.fresh (qt _))⟩
 exact⟨Qf (Yj1 xs lo hi) hz,_,(r.drop (HT.sIx xs.length 0 lo)).take (HT.sIx xs.length xs.length hi - HT.sIx xs.length 0 lo),IsTup.new _ _⟩
noncomputable def y6c(K:W.Frag):R2:=fun x y H Q=>∃a b xs ys,x=.ref a∧y=.ref b∧SqT K H a xs∧SqT K H b ys∧xs≠[]∧xs.length+ys.length≤sizeLine∧
 (ys=[]→Q (.ref a) H)∧(ys≠[]→∀p,H p=none→Q (.ref p) (upd H p (.tup (xs++ys))))
theorem Vals.nil_iff{xs:List V}{us:List Value}(r:Vals xs us):us=[]↔xs=[]:=by
 cases r with
 | nil=>simp
 | cons _ _=>simp
theorem y0d:OpR X (binaryOp .Add) (y6c X.K):=by
 intro pins s σ H x y v u Q I rx ry h
 obtain⟨a,b,xs,ys,rfl,rfl,ha,hb,hx,hz,q1,q2⟩:=h
 cases rx
 cases ry
 obtain⟨its,r1,p1,_⟩:=I.tuple ha
 obtain⟨its2,r2,p2,_⟩:=I.tuple hb
 refine HT.cat_tup p1 p2 (fun z=>hx (r1.nil_iff.mp z)) (fun z=>⟨.ref a,H,I,rfl,q1 (r2.nil_iff.mp z)⟩) (fun z=>?_) (by rw[←r1.length,←r2.length];exact hz)
 refine⟨.ref s.heap.objs.size,_,I.laid (t':=s.toks) (o:=.tup (xs++ys)) (fun b ob q=>qd _ q) (qt _) ?_,rfl,q2 (fun w=>z (r2.nil_iff.mpr w)) _ (I.hok.fresh (qt _))⟩
 exact⟨by rw[qy];exact hz,_,r1.append r2,IsTup.new _ _⟩
end
end L2
namespace L2
open PySem PySem.Spec PyProof.Rows
noncomputable def ixN(n:Nat)(i:Int):Option Nat:=if 0≤i then (if i < n then some i.toNat else none)else if -(n:Int)≤i then some (i+n).toNat else none
noncomputable def atI{α:Type}(xs:List α)(i:Int):Option α:=(ixN xs.length i).bind fun j=>xs[j]?
theorem y0e{n:Nat}{i:Int}{j:Nat}(h:ixN n i=some j):seqIndex? i n=some j∧j < n∧-(n:Int)≤i∧i < n:=by
 unfold ixN at h
 by_cases h0:0≤i
 ·rw[if_pos h0]at h
  by_cases h1:i < n
  ·rw[if_pos h1]at h
   have e:i.toNat=j:=Option.some.inj h
   exact⟨by rw[seqIndex_of h0 h1,e],by lia,by lia,h1⟩
  ·rw[if_neg h1]at h;cases h
 ·rw[if_neg h0]at h
  by_cases h1:-(n:Int)≤i
  ·rw[if_pos h1]at h
   have e:(i+n).toNat=j:=Option.some.inj h
   exact⟨by rw[seqIndex_neg (by lia) h1,e],by lia,h1,by lia⟩
  ·rw[if_neg h1]at h;cases h
theorem Yqs{α:Type}{xs:List α}{i:Int}{v:α}(h:atI xs i=some v):∃j,seqIndex? i xs.length=some j∧xs[j]?=some v∧j < xs.length∧-(xs.length:Int)≤i∧i < xs.length:=by
 unfold atI at h
 cases e:ixN xs.length i with
 | none=>rw[e]at h;cases h
 | some j=>
   rw[e]at h
   obtain⟨h1,h2,h3,h4⟩:=y0e e
   exact⟨j,h1,h,h2,h3,h4⟩
theorem Ym0{α:Type}{xs:List α}{j:Nat}{v:α}(h:xs[j]?=some v):atI xs (j:Int)=some v:=by
 have hj:j < xs.length:=(qm h).1
 have e:ixN xs.length (j:Int)=some j:=by
  unfold ixN
  rw[if_pos (by lia),if_pos (by lia)];simp
 unfold atI;rw[e];exact h
def Yin(b:Expr):Prop:=∀o i,subscripted b false o i=operate [o,i] (getItem o i)
def IxR(X:Cx)(r:R2):Prop:=
 ∀(value slice:Expr) (pins:List (Addr × Obj)) (s:Shared) (σ:St) (H:Hp) (x y:V) (v u:Value) (Q:VK),Inv X pins σ H s→RelV x v→RelV y u→r x y H Q→
  subscripted slice false v u=operate [v,u] (getItem v u)→wpAny (model X.prog X.w) X.A (subscriptTail value slice v u) (EP X pins σ Q) X.xe s
def MtR(X:Cx)(id:String)(r:V→List V→Hp→VK→Prop):Prop:=
 ∀(pins:List (Addr × Obj)) (s:Shared) (σ:St) (H:Hp) (x:V) (xs:List V) (v:Value) (us:List Value) (Q:VK),Inv X pins σ H s→RelV x v→Vals xs us→r x xs H Q→
  wpAny (model X.prog X.w) X.A (call (.builtin id) (v::us)) (EP X pins σ Q) X.xe s
section
variable {X:Cx} {a b:Expr} {ta tb:TE} {pos:Pos}
theorem IxR.or{r r':R2}(h:IxR X r)(h':IxR X r'):IxR X (fun x y H Q=>r x y H Q∨r' x y H Q):=by
 intro value slice pins s σ H x y v u Q I rx ry q hs
 rcases q with q | q
 ·exact h value slice pins s σ H x y v u Q I rx ry q hs
 ·exact h' value slice pins s σ H x y v u Q I rx ry q hs
theorem y6d{r:R2}(hr:IxR X r)(ha:PE X a ta)(hb:PE X b tb)(hs:Yin b):PE X (.Subscript a b pos) (tOp r ta tb):=by
 intro pins s σ H Q I h
 exact Subscript_ (binT ha hb I h fun v u s2 x y H2 I2 rx ry q=>hr a b pins s2 σ H2 x y v u Q I2 rx ry q (hs _ _))
noncomputable def rIxL(K:W.Frag):R2:=fun x y H Q=>∃p xs i v,x=.ref p∧y=.int i∧SqL K H p xs∧atI xs i=some v∧Q v H
noncomputable def rIxT(K:W.Frag):R2:=fun x y H Q=>∃p xs i v,x=.ref p∧y=.int i∧SqT K H p xs∧atI xs i=some v∧Q v H
noncomputable def rIxS:R2:=fun x y H Q=>∃z i c,x=.str z∧y=.int i∧z.length≤sizeLine∧atI z.cps.toList i=some c∧Q (.str ⟨#[c]⟩) H
theorem ix_list:IxR X (rIxL X.K):=by
 intro value slice pins s σ H x y v u Q I rx ry h hs
 obtain⟨p,xs,i,z,rfl,rfl,hq,he,q⟩:=h
 cases rx
 obtain⟨t,rfl⟩:=ry
 obtain⟨its,r,pl,hz⟩:=I.list hq
 obtain⟨j,h1,h2,h3,h4,h5⟩:=Yqs he
 obtain⟨w,ew,rw'⟩:=r.get h2
 have hl:=r.length
 have hn:=Yoo
 have fin:EP X pins σ Q w s:=⟨z,H,I,rw',q⟩
 by_cases h0:0≤i
 ·have hj:i.toNat=j:=by
   rw[seqIndex_of h0 h5]at h1
   exact Option.some.inj h1
  exact item_listR pl.isList h0 (by lia) (by rw[hj];simpa using ew) fin hs
 ·have hj:(i+(its.toArray.size:Int)).toNat=j:=by
   rw[seqIndex_neg (by lia) h4]at h1
   rw[qj,←hl]
   exact Option.some.inj h1
  exact subscriptTail_builtinR (x:=w) pl.isList.typeIs slot_list_getitem.lookup
   (wpAny_getItem_list_neg (Q:=fun r s'=>r=w∧EP X pins σ Q r s') pl.isList (by lia) (by rw[qj]<;>lia) (by lia) (by rw[hj];simpa using ew) ⟨rfl,fin⟩) hs
theorem ix_tup:IxR X (rIxT X.K):=by
 intro value slice pins s σ H x y v u Q I rx ry h hs
 obtain⟨p,xs,i,z,rfl,rfl,hq,he,q⟩:=h
 cases rx
 obtain⟨t,rfl⟩:=ry
 obtain⟨its,r,pl,hz⟩:=I.tuple hq
 obtain⟨j,h1,h2,h3,h4,h5⟩:=Yqs he
 obtain⟨w,ew,rw'⟩:=r.get h2
 have hl:=r.length
 have hn:=Yoo
 have fin:EP X pins σ Q w s:=⟨z,H,I,rw',q⟩
 exact subscriptTail_builtinR (x:=w) pl.typeIs slot_tuple_getitem.lookup
  (getItem_tuple (j:=j) (Q:=fun r s'=>r=w∧EP X pins σ Q r s') pl (by lia) (by lia) (by rw[qj,←hl];exact h1) (by simpa using ew) ⟨rfl,fin⟩) hs
theorem y3g:IxR X rIxS:=by
 intro value slice pins s σ H x y v u Q I rx ry h hs
 obtain⟨z,i,c,rfl,rfl,hz,he,q⟩:=h
 obtain⟨t,rfl⟩:=rx
 obtain⟨t',rfl⟩:=ry
 obtain⟨j,h1,h2,h3,h4,h5⟩:=Yqs he
 have hl:z.cps.toList.length=z.length:=by simp[Str.length]
 rw[hl]at h1 h4 h5
 have hn:=Yoo
 exact tail_any (typeIs_str s z t) slot_str_getitem.lookup (getItem_str (c:=c) (by
  have e1:decide (i < -(2 ^ 63:Int))=false:=decide_eq_false (by lia)
  have e2:decide (i≥2 ^ 63)=false:=decide_eq_false (by lia)
  rw[e1,e2,Bool.or_false]) (by rw[h1];simpa using h2) ⟨.str ⟨#[c]⟩,H,I.tok _,⟨_,rfl⟩,q⟩) hs
noncomputable def rIx(K:W.Frag):R2:=fun x y H Q=>rIxL K x y H Q∨rIxT K x y H Q∨rIxS x y H Q
theorem y3h:IxR X (rIx X.K):=ix_list.or (ix_tup.or y3g)
theorem Yov(lo hi:Option Int)(n:Nat):(sliceBounds lo hi none n).1=((HT.sIx n 0 lo:Nat):Int)∧(sliceBounds lo hi none n).2.1=((HT.sIx n n hi:Nat):Int)∧(sliceBounds lo hi none n).2.2=1:=by
 refine⟨?_,?_,rfl⟩
 ·cases lo with
  | none=>simp[sliceBounds,HT.sIx]
  | some i=>
    simp only[sliceBounds,HT.sIx,Option.getD_none,show(1:Int) > 0 by decide,if_true]
    by_cases h:i < 0
    ·simp only[h,if_true]<;>lia
    ·simp only[h,if_false]<;>lia
 ·cases hi with
  | none=>simp[sliceBounds,HT.sIx]
  | some i=>
    simp only[sliceBounds,HT.sIx,Option.getD_none,show(1:Int) > 0 by decide,if_true]
    by_cases h:i < 0
    ·simp only[h,if_true]<;>lia
    ·simp only[h,if_false]<;>lia
theorem Ym1(its:List Value)(lo hi:Option Int):slicePick its.toArray lo hi none=((its.drop (HT.sIx its.length 0 lo)).take (HT.sIx its.length its.length hi - HT.sIx its.length 0 lo)).toArray:=by
 obtain⟨h1,h2,h3⟩:=Yov lo hi its.toArray.size
 unfold slicePick
 rw[h1,h2,h3]
 simp only[sliceRange_one,pick_run,qj]<;>rfl
noncomputable def rSlL(K:W.Frag):V→Option Int→Option Int→Hp→VK→Prop:=fun x lo hi H Q=>∃a xs,x=.ref a∧SqL K H a xs∧∀p,H p=none→Q (.ref p) (upd H p (.lst (cutV xs lo hi)))
theorem Yuz:SlR X (rSlL X.K):=by
 intro pins s σ H x v vl vu lo hi sl Q I rx hs pl pu h
 obtain⟨a,xs,rfl,hx,q⟩:=h
 cases rx
 obtain⟨its,r,ht,hz⟩:=I.list hx
 have hlen:=r.length
 refine⟨"list",_,slot_list_getitem.lookup,ht.isList.typeIs,?_⟩
 refine wpAny_getItem_list_slice ht.isList hs pl pu .none (by simp) ?_ (by rw[qj]<;>lia)
 rw[Ym1,←hlen]
 refine⟨.ref s.heap.objs.size,_,I.laid (t':=s.toks) (o:=.lst (cutV xs lo hi)) (fun b ob q=>qd _ q) (qt _) ?_,rfl,q _ (I.hok.fresh (qt _))⟩
 exact⟨Qf (Yj1 xs lo hi) hz,_,0,(r.drop (HT.sIx xs.length 0 lo)).take (HT.sIx xs.length xs.length hi - HT.sIx xs.length 0 lo),qo _ rfl⟩
theorem Yaj:Ydx X (.builtin "len") (fun xs H Q=>∃p ys,xs=[.ref p]∧(SqL X.K H p ys∨SqT X.K H p ys)∧Q (.int ys.length) H):=by
 intro pins s σ H xs us Q I r h
 obtain⟨p,ys,rfl,hq,q⟩:=h
 obtain⟨u,rfl,rx⟩:=Yhu r
 cases rx
 have hn:=Yoo
 rcases hq with hq | hq
 ·obtain⟨its,r',pl,hz⟩:=I.list hq
  have hlen:=r'.length
  exact Calls.call_len_list pl.isList (by simp only[qj]<;>lia) ⟨.int ys.length,H,I.tok _,⟨s.toks+1,by rw[qj,hlen]⟩,q⟩
 ·obtain⟨its,r',pl,hz⟩:=I.tuple hq
  have hlen:=r'.length
  exact len_tuple pl (by simp only[qj]<;>lia) ⟨.int ys.length,H,I.tok _,⟨s.toks+1,by rw[qj,hlen]⟩,q⟩
theorem Yat:Ydx X (.type "list") (fun xs H Q=>∃p ys,xs=[.ref p]∧(SqL X.K H p ys∨SqT X.K H p ys)∧∀l,H l=none→Q (.ref l) (upd H l (.lst ys))):=by
 intro pins s σ H xs us Q I r h
 obtain⟨p,ys,rfl,hq,q⟩:=h
 obtain⟨u,rfl,rx⟩:=Yhu r
 cases rx
 have fin:∀(its:List Value),Vals ys its→ys.length≤sizeLine→∀(h':Heap) (c':Nat),(∀b o',s.heap.get? b=some o'→h'.get? b=some o')→
  h'.get? s.heap.objs.size=some { cls:=.type "list",dict:=none,data:=.seq its.toArray c',slots:=#[] }→EP X pins σ Q (.ref s.heap.objs.size) { s with heap:=h' }:=fun its r' hz h' c' kp e=>
  ⟨.ref s.heap.objs.size,_,I.laid (t':=s.toks) kp (qt _) (show ObjOk X.prog X.w _ h' _ (.lst ys) from⟨hz,its,c',r',e⟩),rfl,q _ (I.hok.fresh (qt _))⟩
 rcases hq with hq | hq
 ·obtain⟨its,r',pl,hz⟩:=I.list hq
  have hlen:=r'.length
  obtain⟨o,ho,hc,n,hd⟩:=pl.isList
  exact call_list_seq p (.inl rfl) ho hc hd (fun h' c' kp e=>fin its r' hz h' c' kp e) (by simp only[qj]<;>lia)
 ·obtain⟨its,r',pl,hz⟩:=I.tuple hq
  have hlen:=r'.length
  obtain⟨o,ho,hc,n,hd⟩:=pl
  exact call_list_seq p (.inr rfl) ho hc hd (fun h' c' kp e=>fin its r' hz h' c' kp e) (by simp only[qj]<;>lia)
theorem Yag:Ydx X (.type "tuple") (fun xs H Q=>∃p ys,xs=[.ref p]∧((SqL X.K H p ys∧∀l,H l=none→Q (.ref l) (upd H l (.tup ys)))∨(SqT X.K H p ys∧Q (.ref p) H))):=by
 intro pins s σ H xs us Q I r h
 obtain⟨p,ys,rfl,h⟩:=h
 obtain⟨u,rfl,rx⟩:=Yhu r
 cases rx
 rcases h with⟨hq,q⟩ | ⟨hq,q⟩
 ·obtain⟨its,r',pl,hz⟩:=I.list hq
  have hlen:=r'.length
  refine call_tuple_list pl.isList (fun h' kp=>?_) (by simp only[qj]<;>lia)
  have I1:Inv X pins σ H { s with heap:=h' }:=I.kept (t':=s.toks) kp
  have I2:Inv X pins σ (upd H h'.objs.size (.tup ys)) { s with heap:=h'.push { cls:=.type "tuple",data:=.seq its.toArray } }:=
   I1.laid (t':=s.toks) (fun b o e=>qd _ e) (qt _) (show ObjOk X.prog X.w _ _ _ (.tup ys) from⟨hz,its,r',IsTup.new _ _⟩)
  exact⟨.ref h'.objs.size,_,I2,rfl,q _ (I1.hok.fresh (qt _))⟩
 ·obtain⟨its,r',pl,hz⟩:=I.tuple hq
  exact call_tuple_same pl ⟨.ref p,H,I,rfl,q⟩
def tyV(K:W.Frag)(T:String)(x:V)(H:Hp):Prop:=match x with
 | .str _=>T="str"
 | .int _=>T="int"
 | .ref p=>(T="list"∧∃xs,SqL K H p xs)∨(T="tuple"∧∃o,K.lookup p=some o∧o.cls=.type "tuple"∧o.dict=none)∨
  (T="dict"∧((∃kvs,H p=some (.dK kvs))∨∃kvs,H p=some (.dT kvs)))∨(T="set"∧∃S n,H p=some (.set S n))
 | _=>False
theorem y3i{pins:List (Addr × Obj)}{σ:St}{H:Hp}{s:Shared}{T:String}{x:V}{v:Value}(I:Inv X pins σ H s)(r:RelV x v)(ty:tyV X.K T x H) :
 s.TypeIs v T∧∀a,v=.ref a→∃ob,s.heap.get? a=some ob∧ob.dict=none:=by
 cases x with
 | str z=>
   obtain⟨t,rfl⟩:=r
   cases (show T="str" from ty)
   exact⟨typeIs_str s z t,fun _ e=>nomatch e⟩
 | int i=>
   obtain⟨t,rfl⟩:=r
   cases (show T="int" from ty)
   exact⟨typeIs_int s i t,fun _ e=>nomatch e⟩
 | ref p=>
   cases r
   rcases ty with⟨rfl,xs,hq⟩ | ⟨rfl,o,hk,hc,hd⟩ | ⟨rfl,hk⟩ | ⟨rfl,S,n,hk⟩
   ·obtain⟨its,_,pl,_⟩:=I.list hq
    refine⟨pl.isList.typeIs,fun a e=>?_⟩
    cases e
    obtain⟨o,n,e,c,hd,_⟩:=pl
    exact⟨o,e,hd⟩
   ·refine⟨⟨o,I.kIn p o hk,hc⟩,fun a e=>?_⟩
    cases e
    exact⟨o,I.kIn _ o hk,hd⟩
   ·have z:∃o,s.heap.get? p=some o∧o.ExactDict:=by
     rcases hk with⟨kvs,hk⟩ | ⟨kvs,hk⟩
     ·obtain⟨_,_,_,_,o,_,_,e,ex,_⟩:=I.hok p _ hk
      exact⟨o,e,ex⟩
     ·obtain⟨_,_,_,_,o,_,_,e,ex,_⟩:=I.hok p _ hk
      exact⟨o,e,ex⟩
    obtain⟨o,e,ex⟩:=z
    refine⟨⟨o,e,ex.1⟩,fun a e2=>?_⟩
    cases e2
    exact⟨o,e,ex.2.1⟩
   ·obtain⟨o,_,_,_,e,ex,_⟩:=I.hok p _ hk
    refine⟨⟨o,e,ex.1⟩,fun a e2=>?_⟩
    cases e2
    exact⟨o,e,ex.2.1⟩
 | _=>exact False.elim ty
noncomputable def tBM(K:W.Frag)(T:String)(r:V→List V→Hp→VK→Prop)(to:TE)(t:TA):TE:=fun σ H Q=>to σ H fun x H1=>tyV K T x H1∧t σ H1 fun xs H2=>r x xs H2 Q
variable {o e:Expr} {es:List Expr} {to:TE} {t:TA} {name:Str} {apos cpos:Pos} {T id:String} {r:V→List V→Hp→VK→Prop}
theorem y3j(pa:PlainAttrs T)(slot:Slot T name id)(hty:typeOf (.builtin id)=pure (.type "method_descriptor"))(hm:MtR X id r)(ho:PE X o to)(ha:PA X (e::es) t)
 (hbase:attributeBase o name X.env (eval o X.env)=eval o X.env:=by rfl)
 (hfew:((backTo cpos (starEach (e::es) X.env)).all (fun x=>!x.1)&&(backToKw cpos (keywordEach [] X.env)).all (fun x=>x.1.isSome)
  &&decide ((e::es).length+([]:List Keyword).length+(if ([]:List Keyword).isEmpty then 0 else 1) < 30))=true:=by rfl)
 (hline:(apos.endLine==cpos.line)=true:=by rfl) (hs:starEach (e::es) X.env=(false,eval e X.env)::starEach es X.env:=by rfl) (hplain:(backTo cpos (starEach es X.env)).any (·.1)=false:=by rfl) :
 PE X (.Call (.Attribute o name apos) (e::es) [] cpos) (tBM X.K T r to t):=by
 intro pins s σ H Q I h
 refine wpAny_Call_method_late hbase hfew hline rfl (thn (ho pins s σ H _ I h) fun v s1 hx_=>?_)
 obtain⟨x,H1,I1,r1,ty,q1⟩:=hx_
 obtain⟨h1,h2⟩:=y3i I1 r1 ty
 refine⟨T,id,pa,slot,hty,h1,h2,?_⟩
 have hA:=ha cpos pins s1 σ H1 _ I1 q1
 rw[hs]at hA ⊢
 refine Calls.callWith_builtin (by show(false||(backTo cpos (starEach es X.env)).any (·.1))=false;rw[hplain]<;>rfl) (Calls.evalArgs_plain ?_)
 refine thn hA fun us s2 hx_=>?_
 obtain⟨vs,H2,I2,r2,q2⟩:=hx_
 exact hm pins s2 σ H2 x vs v us Q I2 r1 r2 q2
end
end L2
namespace L2
open PySem PySem.Spec PyProof.Rows
def MtM(X:Cx)(id:String)(r:V→List V→Hp→VK→Prop):Prop:=
 ∀(pins:List (Addr × Obj)) (s:Shared) (σ:St) (H:Hp) (x:V) (xs:List V) (v:Value) (us:List Value) (Q:VK),Inv X pins σ H s→RelV x v→Vals xs us→r x xs H Q→
  wpAny (model X.prog X.w) X.A (call (.builtin id) (v::us)) (EP X pins σ Q) X.xe s
theorem Vals.one:∀{x:V} {us:List Value},Vals [x] us→∃u,us=[u]∧RelV x u
 :=by
  intro x us h
  cases h with
  | cons r t=>
    cases t
    exact⟨_,rfl,r⟩
section
variable {X:Cx} {pins:List (Addr × Obj)} {σ:St} {H:Hp} {s:Shared} {l b:Addr} {xs ys zs:List V}
theorem Inv.lset{its its':List Value}{n:Nat}{f:Array Value→Array Value}{t':Nat}(I:Inv X pins σ H s)(hH:H l=some (.lst xs))
 (e:s.heap.get? l=some { cls:=.type "list",data:=.seq its.toArray n }) (hf:f its.toArray=its'.toArray) (hv:Vals ys its') (hz:ys.length≤sizeLine) :
 Inv X pins σ (upd H l (.lst ys)) { s with heap:=s.heap.update l (Obj.mapSeq f),toks:=t' }:=by
 have q:=PySem.IsL.update e f
 rw[hf]at q
 refine I.write (x:=l) (e:=l) (by rw[hH];exact trivial) (.inl rfl) (fun b' u hb hu=>(Heap.get?_update_other s.heap (Obj.mapSeq f) (Ne.symm hb)).trans hu) ⟨_,q⟩ ?_
 exact⟨hz,its',_,hv,q⟩
theorem Inv.lnew{its:List Value}{t':Nat}(I:Inv X pins σ H s)(hv:Vals ys its)(hz:ys.length≤sizeLine) :
 Inv X pins σ (upd H s.heap.objs.size (.lst ys)) { s with heap:=s.heap.push { cls:=.type "list",data:=.seq its.toArray },toks:=t' }:=
 I.laid (fun _ _ q=>qd _ q) (qt _) ⟨hz,its,0,hv,qo _ rfl⟩
theorem Inv.fresh(I:Inv X pins σ H s):H s.heap.objs.size=none:=I.hok.fresh (qt _)
theorem Inv.lstM(I:Inv X pins σ H s)(hH:H l=some (.lst xs)):xs.length≤sizeLine∧∃(its:List Value) (n:Nat),Vals xs its∧xs.length=its.length∧s.heap.get? l=some { cls:=.type "list",data:=.seq its.toArray n }:=by
 obtain⟨z,its,n,r,e⟩:=I.hok l _ hH
 exact⟨z,its,n,r,r.length,e⟩
end
section
variable {X:Cx}
noncomputable def y0f:V→List V→Hp→VK→Prop:=fun x vs H Q=>∃l xs y,x=.ref l∧vs=[y]∧H l=some (.lst xs)∧xs.length < sizeLine∧Q .non (upd H l (.lst (xs++[y])))
theorem Yow:MtM X "list.append" y0f:=by
 intro pins s σ H x vs v us Q I rx rv h
 obtain⟨l,xs,y,rfl,rfl,hH,hz,q⟩:=h
 cases rx
 obtain⟨u,rfl,ru⟩:=rv.one
 obtain⟨z,its,n,r,hl,e⟩:=I.lstM hH
 refine call_meets F.slot_list_append ⟨_,e,rfl⟩ F.entry_list_append (F.args_list_append_2 _ _) (PySem.list_append l its.toArray n u (by rw[qj];lia)) ⟨e,?_⟩
 refine⟨.non,_,I.lset (its':=its++[u]) hH e (by simp) (r.append (.cons ru .nil)) ?_,rfl,q⟩
 rw[qy,List.length_singleton]
 lia
end
end L2
namespace Att
open PySem PySem.W PySem.Calls PyProof.Rows
theorem Yj2{P:Params}{h:Heap}:∀(ns:List Int) (vs:List Value),WellAll P h vs (ns.map WData.int)→IntsAre vs ns:=by
 intro ns
 induction ns with
 | nil=>
   intro vs w
   rw[List.map_nil]at w
   cases w
   exact .nil
 | cons n ns ih=>
   intro vs w
   rw[Qc]at w
   cases w with
   | cons a b=>
     cases a
     exact .cons _ _ (ih _ b)
theorem Yu0{l:OpenLaw}{n:Nat}(hn:l.most=some n){P:Params}{h:Heap}{args:List WData}{vals:List Value}
 (hpre:l.row.toRowW.claim.pre args=true) (hwl:WellAll P h vals args) :
 ∃a vs ns,vals=[Value.ref a]∧args=[WData.list (ns.map WData.int)]∧h.get? a=some { cls:=.type "list",data:=.seq vs.toArray }∧IntsAre vs ns∧ns.length≤n:=by
 have hsh:WShape.hasAll [] args [.list .int]=true:=(pre_splitW hpre).1
 have hc:l.pre.holds [] { args:=args }=true:=(pre_splitW hpre).2
 obtain⟨d,r,rfl,h1,h2⟩:=hasAllW_cons hsh
 obtain rfl:=hasAllW_nil h2
 obtain⟨xs,rfl,h3⟩:=hasW_list h1
 obtain⟨ns,rfl⟩:=items_int h3
 have hlen:ns.length≤n:=by
  unfold OpenLaw.pre at hc
  have h4:(WTm.not (.lt (.lit (.int (n:Int))) (.len (.arg 0)))).holds [] { args:=[.list (ns.map .int)] }=true:=by
   have h4:=(holds_andW hc).1
   rw[hn]at h4
   exact h4
  have h5:=condW_of h4 (w_not (w_lt w_lit (w_len_list (w_arg rfl))))
  rw[qe]at h5
  refine Nat.le_of_not_lt fun q=>?_
  have q':(n:Int) < ((ns.length:Nat):Int):=by lia
  first
   | (rw[decide_eq_true q']at h5;exact absurd h5 (by decide))
   | (simp at h5;lia)
 cases hwl with
 | cons w1 w2=>
   cases w2
   cases w1 with
   | list ho hall=>exact⟨_,_,ns,rfl,rfl,ho,Yj2 ns _ hall,hlen⟩
theorem Yu1(l:OpenLaw)(args:List WData):l.row.toRowW.claim.post args (.bool true) args=true:=
 postW_of (r:=l.row.toRowW) (X:=(true==true))
  (show WShape.has [] (.bool true) .bool=true by first | rfl | decide | simp[WShape.has,WShape.arms,WShape.armsAll])
  (show(WTm.eq .res (.lit (.bool true))).value [] { args:=args,res:=some (.bool true),after:=args }=some (.bool (true==true)) from w_eq_bool (w_res rfl) w_lit) rfl
theorem attach_call{l:OpenLaw}{n:Nat}{q:Program}{loose:List Str}{XP:(Str→Option Value)→Heap→Prop}{YP:World→Heap→Prop}{d:DefRec}
 (hn:l.most=some n) (hdf:d.params.defaults=[])
 (call:∀(w:World) (s₀ s₁:Shared) (mg mb:Str→Option Value) (fa:Addr) (o:Obj) (pm cd doc:Value) (a:Addr) (vs:List Value) (ns:List Int),
  Ground q loose [] XP w s₀ mg mb s₁.heap→YP w s₁.heap→
  s₁.heap.get? fa=some o→o.data=.func (docDef d.name d.params d.body d.scope pm cd doc)→s₁.heap.CodeRec cd d.name→mg d.name=some (.ref fa)→
  s₁.heap.get? a=some { cls:=.type "list",data:=.seq vs.toArray }→IntsAre vs ns→ns.length≤n→s₁.gens=#[]→
  codeAny (model l.prog w) callerA (.call (.ref fa) ⟨[.ref a],[]⟩) (fun r s'=>r=.ok (.ret (.bool true))∧OldK s₁.heap s'.heap∧s'.os=s₁.os∧AllBare s'.gens) s₁) :
 WalkO q loose XP YP l.row.toRowW d [] (fun f vs=>PySem.call f vs):=by
 intro w s₀ s₁ mg mb G Y fa o pm cd doc dV kV ho hd hcd hD hmg hg args vals as hpre hlay hrd hwl hlo
 obtain rfl:dV=.none:=Dflts.none hD hdf
 obtain rfl:kV=.none:=Dflts.noKw hD
 obtain⟨a,vs,ns,rfl,rfl,hobj,hints,hlen⟩:=Yu0 hn hpre hwl
 refine enter_call (codeAny_mono (call w s₀ s₁ mg mb fa o pm cd doc a vs ns G Y ho (fd_plain hd) hcd hmg hobj hints hlen hg) fun r s' hq=>?_)
 obtain⟨rfl,h2,h3,h4⟩:=hq
 exact⟨.inl ⟨.bool true,.bool true,[],rfl,fun _=>rfl,.bool true,Yu1 l _,fun _=>⟨List.Pairwise.nil,fun _ hm=>(nomatch hm)⟩⟩,h2,h3,h4⟩
end Att
namespace L2
open PySem PySem.Spec PyProof.Rows
theorem Yf0:∀{vs:List Value} {ns:List Int},IntsAre vs ns→Vals (ns.map V.int) vs
 | _,_,.nil=>.nil
 | _,_,.cons n t h=>.cons ⟨t,rfl⟩ (Yf0 h)
def Only(H:Hp):Prop:=∀b,H b=none∨∃o xs,H b=some (.frz o (.lst xs))
theorem Yxn{P:Program}{w:World}{K:W.Frag}{mg mb:Str→Option Value}{CX:CXT}{k:Nat}{fa a:Addr}{fd:FuncData}{x:Str}{sp:Sp}{s₁:Shared}{vs:List Value}{ns:List Int}
 (KX:K.In s₁.heap) (hns:s₁.heap.Ns mainGlobals mg) (hb:s₁.heap.Ns builtinsNs mb) (hbb:∀x:Str,x≠"__name__"→mb x=bootBuiltins x) (hlim:s₁.heap.NoLimit) (hg:s₁.gens=#[])
 (ha:s₁.heap.get? a=some { cls:=.type "list",data:=.seq vs.toArray }) (hi:IntsAre vs ns) (hl:ns.length≤sizeLine) (hr:Room k callerA)
 (F:∀base:Heap,K.In base→base.Ns mainGlobals mg→FnOk P w K mg base CX k fa fd [x] sp) (hbind:∀(s:Shared) (u:Value),BindsTo s fd ⟨[u],[]⟩ [(x,u)])
 (hsp:∀H:Hp,Only H→SqL K H a (ns.map V.int)→sp [.ref a] H (fun v _=>v=.bl true) fun _ _ _=>False)
 (hCX:∀H e s',CX [] H s₁ (fun _ _ _=>False) e s'→False) :
 codeAny (model P w) callerA (.call (.ref fa) ⟨[.ref a],[]⟩) (fun r s'=>r=.ok (.ret (.bool true))∧OldK s₁.heap s'.heap∧s'.os=s₁.os∧AllBare s'.gens) s₁:=by
 have rv:=Yf0 hi
 have lenV:=hi.length
 have core:∀H:Hp,Only H→SqL K H a (ns.map V.int)→HOk P w H s₁.heap→(∀b,H b≠none→b=a)→(H a≠none→K.lookup a=none)→
  codeAny (model P w) callerA (.call (.ref fa) ⟨[.ref a],[]⟩) (fun r s'=>r=.ok (.ret (.bool true))∧OldK s₁.heap s'.heap∧s'.os=s₁.os∧AllBare s'.gens) s₁:=by
  intro H hO hS hok hA hK
  have base_of:∀{b:Addr} {o:Obj},s₁.heap.get? b=some o→H b=none→(hidT s₁.heap H).get? b=some o:=fun e n=>Yxg e n
  have noA:∀{b:Addr} {o:Obj} {es:Array DictEntry} {ep:Nat},s₁.heap.get? b=some o→o.data=.dict es ep→H b=none:=fun {b o es ep} e d=>by
   cases q:H b with
   | none=>rfl
   | some u=>
     have e':b=a:=hA b (by rw[q];simp)
     subst e'
     rw[ha]at e;cases e
     have d':Data.seq vs.toArray _=Data.dict es ep:=d
     cases d'
  have nsK:∀{b:Addr} {m:Str→Option Value},s₁.heap.Ns b m→(hidT s₁.heap H).Ns b m:=fun {b m} ⟨o,es,ep,e,d,r⟩=>⟨o,es,ep,base_of e (noA e d),d,r⟩
  have hKb:K.In (hidT s₁.heap H):=fun b o e=>base_of (KX b o e) (by
   cases q:H b with
   | none=>rfl
   | some u=>
     have e':b=a:=hA b (by rw[q];simp)
     subst e'
     rw[hK (by rw[q];simp)]at e;cases e)
  have hM:Mod K mg (hidT s₁.heap H):=⟨hKb,nsK hns,⟨mb,nsK hb,hbb⟩,let ⟨mc,h1,h2⟩:=hlim;⟨mc,nsK h1,h2⟩⟩
  have e0:Env0 P w K mg (hidT s₁.heap H) callerA [] s₁ H:=⟨rfl,hM,fun b o e=>Yzv e,Nat.le_of_eq (Yug _ _),trivial,fun b hb=>absurd (show b∈([]:List Addr) from hb) (by simp),hok,.of_eq hg⟩
  refine codeAny_mono ((F _ hKb (nsK hns)).run callerA [] s₁ H ⟨[.ref a],[]⟩ [.ref a] [.ref a] _ _ hr e0 (hbind s₁ (.ref a)) (.cons rfl .nil) (hsp H hO hS)) fun r s' h=>?_
  cases r with
  | error e=>exact(hCX H e s' h).elim
  | ok fl=>
    cases fl with
    | next=>exact False.elim h
    | brk=>exact False.elim h
    | cont=>exact False.elim h
    | ret u=>
      obtain⟨v,H',os,bare,un,hok',r',q⟩:=h
      have q':v=.bl true:=q
      subst q'
      obtain rfl:u=Value.bool true:=r'
      refine⟨rfl,OldK.of_keep fun b o e=>?_,os,bare⟩
      cases q:H b with
      | none=>exact un.keep b o e q (by intro z;exact absurd (show b∈([]:List Addr) from z) (by simp)) (by simp)
      | some u=>
        rcases hO b with z | ⟨ob,xs,z⟩
        ·rw[q]at z;cases z
        ·have z2:=un.frzs b ob _ z
         obtain⟨e1,_⟩:=hok b _ z
         obtain⟨e2,_⟩:=hok' b _ z2
         rw[e]at e1;cases e1
         exact e2
 cases hk:K.lookup a with
 | some o=>
   have e:=KX a o hk
   rw[ha]at e
   cases e
   refine core (fun _=>none) (fun _=>.inl rfl) (.inr ⟨_,vs.toArray,_,hk,rfl,rfl,rfl,by rw[qj,lenV];exact hl,by simpa using rv⟩) (fun b u z=>by have z':(none:Option HO)=some u:=z;cases z') (fun b z=>absurd rfl z) fun z=>absurd rfl z
 | none=>
   refine core (fun b=>if b=a then some (.frz { cls:=.type "list",data:=.seq vs.toArray } (.lst (ns.map V.int)))else none) (fun b=>?_) (.inl (.inr ⟨{ cls:=.type "list",data:=.seq vs.toArray },if_pos rfl⟩)) (fun b u z=>?_) (fun b z=>?_) fun _=>hk
   ·by_cases hb:b=a
    ·exact .inr ⟨_,_,if_pos hb⟩
    ·exact .inl (if_neg hb)
   ·by_cases hb:b=a
    ·have z':=(if_pos hb).symm.trans z
     cases z'
     subst hb
     exact⟨ha,by rw[qe];exact hl,vs,_,rv,ha⟩
    ·have z':=(if_neg hb).symm.trans z
     cases z'
   ·by_cases hb:b=a
    ·exact hb
    ·exact absurd (if_neg hb) z
end L2
namespace L2
open PySem PySem.Spec PyProof.Rows
theorem walk_of{l:W.OpenLaw}{n k:Nat}{q:Program}{loose:List Str}{XP:(Str→Option Value)→Heap→Prop}{YP:World→Heap→Prop}{d:DefRec}{K:Params→W.Frag}{CX:World→CXT}{sp:World→Sp}{x:Str}
 (hn:l.most=some n) (hn2:n≤sizeLine) (hdf:d.params.defaults=[]) (hr:Room k callerA)
 (hY:∀(w:World) (h:Heap),YP w h→(K w.params).In h)
 (F:∀(w:World) (mg:Str→Option Value) (fa:Addr) (h:Heap),(K w.params).In h→h.Ns mainGlobals mg→mg d.name=some (.ref fa)→
  ∃fd:FuncData,(∀(s:Shared) (u:Value),BindsTo s fd ⟨[u],[]⟩ [(x,u)])∧
   ∀base:Heap,(K w.params).In base→base.Ns mainGlobals mg→FnOk l.prog w (K w.params) mg base (CX w) k fa fd [x] (sp w))
 (hsp:∀(w:World) (H:Hp) (a:Addr) (ns:List Int),ns.length≤n→Only H→SqL (K w.params) H a (ns.map V.int)→sp w [.ref a] H (fun v _=>v=.bl true) fun _ _ _=>False)
 (hCX:∀(w:World) (H:Hp) (s:Shared) (e:Value) (s':Shared),CX w [] H s (fun _ _ _=>False) e s'→False) :
 W.WalkO q loose XP YP l.row.toRowW d [] (fun f vs=>PySem.call f vs):=by
 refine Att.attach_call hn hdf fun w s₀ s₁ mg mb fa o pm cd doc a vs ns G Y ho hd hcd hmg hobj hints hlen hg=>?_
 have KX:=hY w _ Y
 obtain⟨fd,hb,hF⟩:=F w mg fa _ KX G.T.g hmg
 exact Yxn KX G.T.g G.T.b G.T.builtins G.T.nolimit hg hobj hints (Qf hlen hn2) hr hF hb (fun H hO hS=>hsp w H a ns hlen hO hS) fun H e s'=>hCX w H s₁ e s'
end L2
namespace L2
open PySem PySem.Spec PyProof.Rows
noncomputable def defArgs(s:Stmt):Arguments:=match s with
 | .FunctionDef _ a _ _ _ _ _ _ _ _=>a
 | _=>{ posonlyargs:=[],args:=[],vararg:=none,kwonlyargs:=[],kw_defaults:=[],kwarg:=none,defaults:=[] }
noncomputable def defBody(s:Stmt):List Stmt:=match s with
 | .FunctionDef _ _ b _ _ _ _ _ _ _=>b
 | _=>[]
noncomputable def defScope(s:Stmt):Scope:=match s with
 | .FunctionDef _ _ _ _ _ _ sc _ _ _=>sc
 | _=>{ kind:=.function,names:=[],isGenerator:=false,isCoroutine:=false }
noncomputable abbrev CX0:CXT:=fun _ _ _ _ _ _=>False
noncomputable abbrev E0:XK:=fun _ _ _=>False
theorem y6e{X:Cx}:Yus CX0 X E0:=fun _ _ _ _ _ _ _ h=>h.elim
structure Fun(K:W.Frag)(x qual:Str)(st:Stmt)(f:Addr)(fd:FuncData):Prop where
 ex:∃(oc:Value) (od:Option Addr) (kV doc pm:Value) (an:Option Addr) (cdv ct:Value) (osl:Array (Option Value)),
  fd=W.fnOf x qual (defArgs st) (defBody st) (defScope st) .none kV doc pm an cdv ct∧K.lookup f=some ⟨oc,od,.func fd,osl⟩∧W.codeIn K cdv qual=true
 kp:W.keepIn K (.ref f)=true
section
variable {P:Program} {w:World} {K:W.Frag} {mg:Str→Option Value} {base:Heap}
theorem Fun.ok{x qual:Str}{st:Stmt}{f:Addr}{fd:FuncData}{N ps:List Str}{k:Nat}{sp:Sp}(F:Fun K x qual st f fd)(S:FnScope N ps (defScope st))(len:∀vs H Q E,sp vs H Q E→vs.length=ps.length)
 (hbody:∀(cdv:Value) (A:Around) (outer:List Env) (s:Shared) (H:Hp) (vs:List V) (Q:VK) (E:XK),Room k (A.deeper (envOfC qual (defScope st) s.heap.objs.size f cdv))→sp vs H Q E→
  ∃t,PSs (cxOf CX0 P w K mg base N qual (defScope st) f cdv A outer s H E).nox (defBody st) t∧t { nx:=fun _ H'=>Q .non H',rt:=Q } (start N vs) H):FnOk P w K mg base CX0 (k+1) f fd ps sp:=by
 obtain⟨oc,od,kV,doc,pm,an,cdv,ct,osl,rfl,lk,hcd⟩:=F.ex
 refine y6a lk hcd S len fun A outer s H vs Q E hr hsp=>?_
 obtain⟨t,h,q⟩:=hbody cdv A outer s H vs Q E hr hsp
 exact⟨t,h.nox,q⟩
theorem Fun.binds{x qual:Str}{st:Stmt}{f:Addr}{fd:FuncData}{ps:List Str}(F:Fun K x qual st f fd)
 (h:∀(kV doc pm:Value) (an:Option Addr) (cdv ct:Value) (us:List Value),us.length=ps.length→bindArgs (W.fnOf x qual (defArgs st) (defBody st) (defScope st) .none kV doc pm an cdv ct) ⟨us,[]⟩=pure (ps.zip us)):Binds K fd ps []:=by
 obtain⟨oc,od,kV,doc,pm,an,cdv,ct,osl,rfl,lk,hcd⟩:=F.ex
 exact .all (h kV doc pm an cdv ct)
theorem fun_mk{x qual:Str}{st:Stmt}{f:Addr}{oc:Value}{od an:Option Addr}{osl:Array (Option Value)}{kV doc pm cdv ct:Value}(l:K.lookup f=some ⟨oc,od,.func (W.fnOf x qual (defArgs st) (defBody st) (defScope st) .none kV doc pm an cdv ct),osl⟩)
 (c:W.codeIn K cdv qual=true) (k:W.keepIn K (.ref f)=true):Fun K x qual st f (W.fnOf x qual (defArgs st) (defBody st) (defScope st) .none kV doc pm an cdv ct):=⟨⟨oc,od,kV,doc,pm,an,cdv,ct,osl,rfl,l,c⟩,k⟩
end
def Same(H H':Hp):Prop:=∀b o,H b=some o→H' b=some o
theorem Same.refl(H:Hp):Same H H:=fun _ _ h=>h
theorem Same.trans{H H1 H2:Hp}(a:Same H H1)(b:Same H1 H2):Same H H2:=fun c o h=>b c o (a c o h)
theorem Same.free{H H':Hp}(e:Same H H'){l:Addr}(h:H' l=Option.none):H l=Option.none:=by
 cases q:H l with
 | none=>rfl
 | some o=>
   rw[e l o q]at h
   cases h
theorem Same.seq{K:W.Frag}{H H':Hp}{a:Addr}{xs:List V}(e:Same H H')(h:SqL K H a xs):SqL K H' a xs:=by
 rcases h with(h | ⟨o,h⟩) | h
 ·exact .inl (.inl (e _ _ h))
 ·exact .inl (.inr ⟨o,e _ _ h⟩)
 ·exact .inr h
end L2
namespace L2
open PySem PySem.Spec PyProof.Rows
noncomputable def clOf(env:Env):List (Str × NameKind)→List (Str × Addr)→List (Str × Addr)
 | [],cs=>cs
 | (n,k)::r,cs=>if (k==NameKind.free)=true then (match env.cells.lookup n with | some c=>clOf env r ((n,c)::cs) | none=>clOf env r cs)else clOf env r cs
theorem Yf1{scope:Scope}{env:Env}(h:∀x∈scope.names,x.2=NameKind.free→∃c,env.cells.lookup x.1=some c):closureFor scope env=pure (clOf env scope.names []):=by
 have key:∀(l:List (Str × NameKind)) (cs:List (Str × Addr)),(∀x∈l,x.2=NameKind.free→∃c,env.cells.lookup x.1=some c)→
  (forIn l cs fun(x:Str × NameKind) (r:List (Str × Addr))=>if (x.2==NameKind.free)=true then (do let c ←cellOf env x.1;pure (ForInStep.yield ((x.1,c)::r)))else pure (ForInStep.yield r))=(pure (clOf env l cs):Sem (List (Str × Addr))):=by
  intro l
  induction l with
  | nil=>intro cs _;rfl
  | cons x l ih=>
    intro cs hl
    obtain⟨n,k⟩:=x
    have ht:=fun y hy=>hl y (qf _ hy)
    rw[List.forIn_cons]
    by_cases hk:k=NameKind.free
    ·subst hk
     obtain⟨c,hc⟩:=hl (n,NameKind.free) qg rfl
     have hc':env.cells.lookup n=some c:=hc
     have e1:cellOf env n=pure c:=by unfold cellOf;rw[hc']
     have hff:(NameKind.free==NameKind.free)=true:=rfl
     show(if (NameKind.free==NameKind.free)=true then (do let c ←cellOf env n;pure (ForInStep.yield ((n,c)::cs)))else pure (ForInStep.yield cs)) >>= _=_
     rw[if_pos hff,e1,pure_bind,pure_bind]
     show forIn l ((n,c)::cs) _=_
     rw[ih _ ht]
     show _=pure (if (NameKind.free==NameKind.free)=true then (match env.cells.lookup n with | some c=>clOf env l ((n,c)::cs) | none=>clOf env l cs)else clOf env l cs)
     rw[if_pos hff,hc']
    ·have hb:(k==NameKind.free)=false:=by simpa using hk
     show(if (k==NameKind.free)=true then _ else pure (ForInStep.yield cs)) >>= _=_
     rw[if_neg (by rw[hb];exact qh),pure_bind]
     show forIn l cs _=_
     rw[ih _ ht]
     show _=pure (if (k==NameKind.free)=true then (match env.cells.lookup n with | some c=>clOf env l ((n,c)::cs) | none=>clOf env l cs)else clOf env l cs)
     rw[if_neg (by rw[hb];exact qh)]
 have:=key scope.names [] h
 unfold closureFor
 simpa using this
theorem Yjw{env:Env}:∀(l:List (Str × NameKind)) (cs:List (Str × Addr)),(∀x c,(x,c)∈cs→env.cells.lookup x=some c)→∀x c,(x,c)∈clOf env l cs→env.cells.lookup x=some c
 | [],cs,h,x,c,e=>h x c e
 | (n,k)::r,cs,h,x,c,e=>by
   unfold clOf at e
   split at e
   ·split at e
    ·rename_i d hd
     refine Yjw r _ (fun y b hy=>?_) x c e
     rcases qr hy with q | q
     ·cases q;exact hd
     ·exact h y b q
    ·exact Yjw r cs h x c e
   ·exact Yjw r cs h x c e
theorem Ygm{env:Env}:∀(l:List (Str × NameKind)) (cs:List (Str × Addr)) (p:Str × Addr),p∈cs→p∈clOf env l cs
 | [],_,_,h=>h
 | (n,k)::r,cs,p,h=>by
   unfold clOf
   split
   ·split
    ·exact Ygm r _ p (qf _ h)
    ·exact Ygm r _ p h
   ·exact Ygm r _ p h
theorem Yhw{env:Env}:∀(l:List (Str × NameKind)) (cs:List (Str × Addr)) (x:Str) (c:Addr),(x,NameKind.free)∈l→env.cells.lookup x=some c→(x,c)∈clOf env l cs
 | (n,k)::r,cs,x,c,h,hc=>by
   rcases qr h with q | q
   ·cases q
    unfold clOf
    rw[if_pos (show(NameKind.free==NameKind.free)=true from rfl),hc]
    exact Ygm r _ _ qg
   ·unfold clOf
    split
    ·split
     ·exact Yhw r _ x c q hc
     ·exact Yhw r _ x c q hc
    ·exact Yhw r _ x c q hc
theorem Yhx{x:Str}{c:Addr}{cl:List (Str × Addr)}(h:(x,c)∈cl):∃d,cl.lookup x=some d:=by
 induction cl with
 | nil=>cases h
 | cons p r ih=>
   obtain⟨n,b⟩:=p
   rw[List.lookup_cons]
   cases e:(x==n)with
   | true=>exact⟨b,rfl⟩
   | false=>
     rcases qr h with q | q
     ·cases q;simp at e
     ·exact ih q
structure CompSc(XN:List Str)(xsc:Scope)(N:List Str)(src:List (Option Nat))(sc:Scope):Prop where
 kind:sc.kind=.function
 xkind:xsc.kind=.function
 cellU:∀y∈sc.names,y.2=NameKind.cell→sc.names.lookup y.1=some NameKind.cell
 names:∀y∈sc.names,y.2=NameKind.local→sc.names.lookup y.1=some NameKind.local
 len:src.length=N.length
 nd:N.Nodup
 cap:∀(i j:Nat) (x:Str),N[i]?=some x→src[i]?=some (some j)→XN[j]?=some x∧sc.names.lookup x=some NameKind.free
 fr:∀y∈sc.names,y.2=NameKind.free→xsc.names.lookup y.1=some NameKind.cell∨xsc.names.lookup y.1=some NameKind.free
noncomputable def capB(XN:List Str)(sc:Scope):List Str→List (Option Nat)→Bool
 | [],[]=>true
 | x::N,none::src=>capB XN sc N src
 | x::N,some j::src=>decide (XN[j]?=some x)&&decide (sc.names.lookup x=some NameKind.free)&&capB XN sc N src
 | _,_=>false
theorem Ym2{XN:List Str}{sc:Scope}:∀{N:List Str} {src:List (Option Nat)},capB XN sc N src=true→src.length=N.length
 | [],[],_=>rfl
 | _::N,none::src,h=>by
   have:=Ym2 (N:=N) (src:=src) h
   simp[this]
 | _::N,some j::src,h=>by
   replace h:(decide (XN[j]?=some _)&&decide (sc.names.lookup _=some NameKind.free)&&capB XN sc N src)=true:=h
   simp only[Qd]at h
   have:=Ym2 (N:=N) (src:=src) h.2
   simp[this]
 | [],_::_,h=>Bool.noConfusion h
 | _::_,[],h=>Bool.noConfusion h
theorem Ym3{XN:List Str}{sc:Scope}:∀{N:List Str} {src:List (Option Nat)},capB XN sc N src=true→∀(i j:Nat) (x:Str),N[i]?=some x→src[i]?=some (some j)→XN[j]?=some x∧sc.names.lookup x=some NameKind.free
 | [],[],_,i,j,x,h,_=>by simp at h
 | _::N,none::src,h,i,j,x,h1,h2=>by
   cases i with
   | zero=>simp at h2
   | succ i=>exact Ym3 (N:=N) (src:=src) h i j x (by simpa using h1) (by simpa using h2)
 | y::N,some k::src,h,i,j,x,h1,h2=>by
   replace h:(decide (XN[k]?=some y)&&decide (sc.names.lookup y=some NameKind.free)&&capB XN sc N src)=true:=h
   simp only[Qd,decide_eq_true_eq]at h
   cases i with
   | zero=>
     simp at h1 h2
     subst h1;subst h2
     exact h.1
   | succ i=>exact Ym3 (N:=N) (src:=src) h.2 i j x (by simpa using h1) (by simpa using h2)
 | [],_::_,h,_,_,_,_,_=>Bool.noConfusion h
 | _::_,[],h,_,_,_,_,_=>Bool.noConfusion h
noncomputable def y3k(XN:List Str)(xsc:Scope)(N:List Str)(src:List (Option Nat))(sc:Scope):Bool:=
 decide (sc.kind=.function)&&decide (xsc.kind=.function)&&sc.names.all (fun y=>decide (y.2=NameKind.cell→sc.names.lookup y.1=some NameKind.cell))&&sc.names.all (fun y=>decide (y.2=NameKind.local→sc.names.lookup y.1=some NameKind.local))&&
  decide N.Nodup&&capB XN sc N src&&sc.names.all (fun y=>decide (y.2=NameKind.free→xsc.names.lookup y.1=some NameKind.cell∨xsc.names.lookup y.1=some NameKind.free))
theorem Yy{XN:List Str}{xsc:Scope}{N:List Str}{src:List (Option Nat)}{sc:Scope}(h:y3k XN xsc N src sc=true):CompSc XN xsc N src sc:=by
 unfold y3k at h
 simp only[Qd,decide_eq_true_eq,List.all_eq_true]at h
 obtain⟨⟨⟨⟨⟨⟨h1,h2⟩,h3⟩,h4⟩,h5⟩,h6⟩,h7⟩:=h
 exact⟨h1,h2,h3,h4,Ym2 h6,h5,Ym3 h6,h7⟩
noncomputable abbrev Ya3(X:Cx)(scope:Scope)(N:List Str)(cl:List (Str × Addr))(C:Addr)(fp:List Addr)(s:Shared)(H:Hp):Cx where
 prog:=X.prog
 w:=X.w
 K:=X.K
 mg:=X.mg
 base:=X.base
 A:=X.A
 N:=N
 s₀:=s
 H₀:=H
 env:=compEnvC scope cl C X.env
 outer:=X.stack
 stack:=X.stack
 ex:=fp
 fn:=fun x=>scope.names.lookup x==some NameKind.cell
 calm:=X.calm
 pn:=[]
 xe:=fun _ _=>False
noncomputable def capσ(src:List (Option Nat))(σ:St):St:=src.map fun o=>o.bind fun j=>(σ[j]?).join
def PIfs(X:Cx)(ifs:List Expr)(t:TT):Prop:=
 ∀(pins:List (Addr × Obj)) (s:Shared) (σ:St) (H:Hp) (Q:Bool→Hp→Prop),Inv X pins σ H s→t σ H Q→
  wpAny (model X.prog X.w) X.A (forIn ifs true fun c r=>if r=true then do let ok ←isTrue c X.env (eval c X.env);pure (ForInStep.yield ok)else pure (ForInStep.yield r)) (TP X pins σ Q) X.xe s
noncomputable def tYes:TT:=fun _ H Q=>Q true H
theorem y0g{X:Cx}:PIfs X [] tYes:=fun _ _ _ H _ I h=>wpAny_tests_nil ⟨H,I,h⟩
theorem y0h{X:Cx}{c:Expr}{t:TT}(h:PT X c t):PIfs X [c] t:=fun pins s σ H Q I hq=>wpAny_tests_one (h pins s σ H Q I hq)
noncomputable def tLC(wi:TI)(src:List (Option Nat))(g:TG)(ti:TT)(te:TE):TE:=fun σ H Q=>wi σ H fun J H1=>∀p,H1 p=none→
 ∃W:Nat→Nat→St→Hp→Prop,(∃m,W 0 m (capσ src σ) (upd H1 p (.lst [])))∧∀i m σ1 H2,W i m σ1 H2→
  (J.stop i H2∧Q (.ref p) H2)∨
  (J.go i H2∧∀x H3,J.yld i H2 x H3→g x σ1 H3 fun σ4 H4=>ti σ4 H4 fun b H5=>if b=true then te σ4 H5 fun v H6=>∃xs,H6 p=some (.lst xs)∧xs.length < sizeLine∧∃m',m' < m∧W (i+1) m' σ4 (upd H6 p (.lst (xs++[v])))else ∃m',m' < m∧W (i+1) m' σ4 H5)
section
variable {prog:Program} {w:World} {A:Around} {R:Result→Shared→Prop} {s:Shared}
theorem Ygs{elt target iter:Expr}{ifs:List Expr}{scope:Scope}{pos:Pos}{it acc:Value}{env:Env}(I:Nat→Shared→Prop)
 (turn:∀n s,I n s→wpAny (model prog w) A (pyNext it) (fun r s₁=>match r with
  | none=>R (.ok .next) s₁
  | some v=>wpAny (model prog w) A (letOwnedTupleGo target it v) (fun _ s₁=>wpAny (model prog w) A (assign target env v) (fun _ s₂=>
   wpAny (model prog w) A (forIn ifs true fun c r=>if r=true then do let ok ←isTrue c env (eval c env);pure (ForInStep.yield ok)else pure (ForInStep.yield r)) (fun ok s₃=>
    if ok=true then wpAny (model prog w) A (eval elt env) (fun x s₄=>
     wpAny (model prog w) A (call (.builtin "list.append") [acc,x]) (fun _ s₅=>∃m,m < n∧I m s₅) (notedBy (model prog w) A env fun e s'=>R (.error e) s') s₄) (notedBy (model prog w) A env fun e s'=>R (.error e) s') s₃
    else ∃m,m < n∧I m s₃) (notedBy (model prog w) A env fun e s'=>R (.error e) s') s₂) (notedBy (model prog w) A env fun e s'=>R (.error e) s') s₁) (notedBy (model prog w) A env fun e s'=>R (.error e) s') s₁) (notedBy (model prog w) A env fun e s'=>R (.error e) s') s)
 (n:Nat) (h:I n s) :
 codeAny (model prog w) A (.compLoop (.ListComp elt [⟨target,iter,ifs,0⟩] scope pos) 0 it acc env) R s:=by
 refine codeAny_loop rfl I (fun n s hI=>?_) n h
 show wpAny _ A ((compTurn (.ListComp elt [⟨target,iter,ifs,0⟩] scope pos) 0 it acc env).onRaise (fun x=>do noteFrame x env;theTreesLotGoes x)) _ _ s
 refine wpAny_noted ?_
 rw[compTurn_list]
 refine wpAny_bind (wpAny_standAt (wpAny_bind (wpAny_mono (turn n s hI) (fun r s₁ h₁=>?_) fun _ _ h'=>h')))
 cases r with
 | none=>exact wpAny_pure h₁
 | some v=>
   refine wpAny_bind (wpAny_mono h₁ (fun _ s₁ h₁=>?_) fun _ _ h'=>h')
   refine wpAny_bind (wpAny_mono h₁ (fun _ s₂ h₂=>wpAny_bind (wpAny_mono h₂ (fun ok s₃ h₃=>?_) fun _ _ h'=>h')) fun _ _ h'=>h')
   cases ok with
   | false=>exact wpAny_pure ⟨rfl,h₃⟩
   | true=>
     exact wpAny_bind (wpAny_bind (wpAny_mono h₃ (fun x s₄ h₄=>wpAny_bind (wpAny_mono h₄ (fun _ s₅ h₅=>wpAny_pure (wpAny_pure ⟨rfl,h₅⟩)) fun _ _ h'=>h')) fun _ _ h'=>h'))
end
section
variable {X:Cx} {elt tg iter:Expr} {ifs:List Expr} {scope:Scope} {pos:Pos} {wi:TI} {g:TG} {ti:TT} {te:TE} {N:List Str} {src:List (Option Nat)}
theorem Yg9{scope:Scope}{env:Env}{x:Str}(h:scope.names.lookup x=some NameKind.free)(hk:env.kindOf x=some NameKind.cell∨env.kindOf x=some NameKind.free) :
 (relabel scope env).names.lookup x=some NameKind.cell∨(relabel scope env).names.lookup x=some NameKind.free:=by
 unfold relabel
 show List.lookup x (scope.names.map _)=_∨List.lookup x (scope.names.map _)=_
 generalize scope.names=l at h
 induction l with
 | nil=>cases h
 | cons p r ih=>
   obtain⟨n,k⟩:=p
   rw[List.lookup_cons]at h
   rw[Qc]
   cases e:(x==n)with
   | true=>
     rw[e]at h
     cases h
     by_cases hc:(NameKind.free==NameKind.free&&env.scope.kind==ScopeKind.function&&env.kindOf n==some NameKind.cell)=true
     ·left;simp only[hc,if_true];rw[List.lookup_cons,e]
     ·right;simp only[hc];rw[if_neg qh,List.lookup_cons,e]
   | false=>
     rw[e]at h
     have q:=ih h
     by_cases hc:(k==NameKind.free&&env.scope.kind==ScopeKind.function&&env.kindOf n==some NameKind.cell)=true
     ·simp only[hc,if_true];rw[List.lookup_cons,e];exact q
     ·simp only[hc];rw[if_neg qh,List.lookup_cons,e];exact q
theorem Yj3{scope:Scope}{env:Env}{x:Str}(h:(relabel scope env).names.lookup x=some NameKind.cell∨(relabel scope env).names.lookup x=some NameKind.free) :
 (x,NameKind.free)∈scope.names∨(x,NameKind.cell)∈scope.names:=by
 unfold relabel at h
 change List.lookup x (scope.names.map _)=_∨List.lookup x (scope.names.map _)=_ at h
 revert h
 generalize scope.names=l
 intro h
 induction l with
 | nil=>rcases h with h | h<;>cases h
 | cons p r ih=>
   obtain⟨n,k⟩:=p
   rw[Qc]at h
   have hr:=fun z=>ih z
   cases e:(x==n)with
   | true=>
     have en:x=n:=by simpa using e
     subst en
     by_cases hk:k=NameKind.free
     ·subst hk;exact .inl qg
     ·have hb:(k==NameKind.free)=false:=by simpa using hk
      simp only[hb,Bool.false_and,Ql,if_false]at h
      rw[List.lookup_cons,e]at h
      rcases h with h | h
      ·cases h;exact .inr qg
      ·cases h;exact absurd rfl hk
   | false=>
     refine(hr ?_).imp (qf _) (qf _)
     by_cases hk:(k==NameKind.free&&env.scope.kind==ScopeKind.function&&env.kindOf n==some NameKind.cell)=true
     ·simp only[hk,if_true]at h;rw[List.lookup_cons,e]at h;exact h
     ·simp only[hk]at h;rw[if_neg qh,List.lookup_cons,e]at h;exact h
theorem Ycg:∀(names:List (Str × NameKind)) (n:Nat) (acc:List (Str × Addr)),cellsFrom n names acc=cellsFrom n names []++acc
 | [],_,_=>rfl
 | (x,k)::r,n,acc=>by
   unfold cellsFrom
   split
   ·rw[Ycg r (n+1) ((x,n)::acc),Ycg r (n+1) [(x,n)],List.append_assoc];rfl
   ·exact Ycg r n acc
theorem Yfd:∀(names:List (Str × NameKind)) (n:Nat) (x:Str) (c:Addr),(x,c)∈cellsFrom n names []→(x,NameKind.cell)∈names
 | [],_,_,_,h=>(nomatch h)
 | (y,k)::r,n,x,c,h=>by
   unfold cellsFrom at h
   split at h
   ·rename_i hk
    rw[Ycg]at h
    rcases qu h with h | h
    ·exact qf _ (Yfd r _ x c h)
    ·rw[Qk]at h
     cases h
     have:k=NameKind.cell:=by simpa using hk
     rw[this];exact qg
   ·exact qf _ (Yfd r n x c h)
theorem Yio{own cl:List (Str × Addr)}{x:Str}:(own++cl).lookup x=(own.lookup x).or (cl.lookup x):=by
 induction own with
 | nil=>rfl
 | cons p r ih=>
   obtain⟨y,b⟩:=p
   rw[List.cons_append,List.lookup_cons,List.lookup_cons]
   cases (x==y)with
   | true=>rfl
   | false=>exact ih
theorem Ybi{own cl:List (Str × Addr)}{x:Str}{c:Addr}(h:(own++cl).lookup x=some c):own.lookup x=some c∨(own.lookup x=none∧cl.lookup x=some c):=by
 rw[Yio]at h
 cases e:own.lookup x with
 | none=>rw[e]at h;exact .inr ⟨rfl,h⟩
 | some d=>rw[e]at h;exact .inl h
theorem Yqt{M:Model}{A:Around}{E:Value→Shared→Prop}{scope:Scope}{globals:Addr}{cl:List (Str × Addr)}{qual:Str}{outer:Env}{Q:Env→Shared→Prop}{s:Shared}{bt:Addr}
 (h:Q (newEnv scope s.heap.objs.size globals (cellsFrom (s.heap.objs.size+1) scope.names []++cl) qual none .none (some outer) bt) { s with heap:=pushCells (s.heap.push { cls:=.type "dict",data:=.dict #[] }) scope.names }) :
 wpAny M A (newFunctionEnv scope globals cl [] qual none .none (some outer) bt) Q E s:=by
 simp only[newFunctionEnv,Option.isSome_some,if_true]
 refine wpAny_bind (wpAny_alloc ?_)
 refine wpAny_bind (wpAny_layCells _ (fun name kind cells=>by cases hkc:kind==NameKind.cell<;>simp[hkc]) _ _ _ _ ?_)
 rw[show({ s with heap:=s.heap.push { cls:=.type "dict",data:=.dict #[] } }:Shared).heap.objs.size=s.heap.objs.size+1 from Heap.size_push ..,Ycg]
 rw[List.forIn_nil]
 exact wpAny_bind (wpAny_pure (wpAny_pure h))
theorem Ytf{pins:List (Addr × Obj)}{σ:St}{H:Hp}{s:Shared}{fp:List Addr}{h₁:Heap}{tk:Nat}{own:List (Str × Addr)}(S:CompSc X.N X.env.scope N src scope)(I:Inv X pins σ H s)(hf:∀b∈fp,FpOk X pins H b)(ho:∀b∈fp,∃o,s.heap.get? b=some o)
 (hn:h₁.Ns s.heap.objs.size fun _=>none) (hk:∀b o,s.heap.get? b=some o→h₁.get? b=some o) (hc:CellsOk h₁ (s.heap.objs.size+1) own) (ow:∀x c,(x,c)∈own→(x,NameKind.cell)∈scope.names) (has:∀x,scope.names.lookup x=some NameKind.cell→∃c,own.lookup x=some c) :
 Inv (Ya3 X scope N (own++clOf X.env scope.names []) s.heap.objs.size fp s H) [] (capσ src σ) H { s with heap:=h₁,toks:=tk }:=by
 have sub:∀x c,(clOf X.env scope.names []).lookup x=some c→X.env.cells.lookup x=some c:=fun x c e=>Yjw scope.names [] (fun _ _ z=>nomatch z) x c (PySem.mem_of_lookup e)
 have clt:∀x c,(clOf X.env scope.names []).lookup x=some c→c < s.heap.objs.size:=fun x c e=>by
  obtain⟨v,q⟩:=I.cell x c (sub x c e)
  exact q.lt
 have owl:∀x c,own.lookup x=some c→s.heap.objs.size < c:=fun x c e=>(hc.empty x c (PySem.mem_of_lookup e)).2
 have nofree:∀x,scope.names.lookup x=some NameKind.free→own.lookup x=none:=fun x hx=>by
  cases e:own.lookup x with
  | none=>rfl
  | some c=>
    have:=S.cellU _ (ow x c (PySem.mem_of_lookup e)) rfl
    rw[hx]at this
    cases this
 have fpl:∀b∈fp,b < s.heap.objs.size:=fun b hb=>by
  obtain⟨o,e⟩:=ho b hb
  exact qk e
 have nfs:∀b∈fp,b∉frs X.stack:=fun b hb z=>by
  rcases qr (I.stkSub b z)with e | e
  ·exact(hf b hb).2.1 e
  ·exact(hf b hb).2.2.1 e
 refine⟨⟨I.ok.mod,S.kind,I.ok.glob,I.ok.blt,qt _,fun x y c h1 h2=>?_,fun x hx=>?_,fun x c z e=>?_,I.ok.hd,I.ok.frames,.inl rfl,fun b hb=>⟨ql (fpl b hb),fun x c e=>?_⟩,
  I.bs,Qf I.ok.bsz I.sz,fun b o e hb=>?_,nfs,I.stack,I.stkFree⟩,rfl,I.bare,Un.kept hk,⟨_,hn,fun i x v h1 h2 h3=>?_⟩,fun x c e=>?_,I.fresh,fun x c e=>?_,fun p hp=>(nomatch hp),I.hok.kept hk,?_⟩
 ·rcases Ybi h1 with h1 | ⟨_,h1⟩
  ·rcases Ybi h2 with h2 | ⟨_,h2⟩
   ·exact name_of_addr hc.apart (PySem.mem_of_lookup h1) (PySem.mem_of_lookup h2)
   ·exact absurd (Nat.lt_trans (owl x c h1) (clt y c h2)) (Qi _)
  ·rcases Ybi h2 with h2 | ⟨_,h2⟩
   ·exact absurd (Nat.lt_trans (owl y c h2) (clt x c h1)) (Qi _)
   ·exact I.ok.inj x y c (sub x c h1) (sub y c h2)
 ·show ∃c,(own++clOf X.env scope.names []).lookup x=some c
  rw[Yio]
  cases e:own.lookup x with
  | some c=>exact⟨c,rfl⟩
  | none=>
    rcases Yj3 hx with hm | hm
    ·obtain⟨c,hc⟩:=I.ok.has x (S.fr _ hm rfl)
     exact Yhx (Yhw scope.names [] x c hm hc)
    ·obtain⟨c,hc⟩:=has x (S.cellU _ hm rfl)
     rw[e]at hc
     cases hc
 ·have z':scope.names.lookup x=some NameKind.cell:=by simpa using z
  obtain⟨d,hd⟩:=has x z'
  rcases Ybi e with e | ⟨e,_⟩
  ·exact Nat.le_of_lt (owl x c e)
  ·rw[hd]at e;cases e
 ·rcases Ybi e with e | ⟨_,e⟩
  ·exact Nat.ne_of_gt (Nat.lt_trans (fpl b hb) (owl x c e))
  ·exact(hf b hb).2.2.2.2.1 x c (sub x c e)
 ·rcases(hf b hb).2.2.2.1 with z | z
  ·exact I.ok.noex b o e z
  ·exact absurd (Qh (qk e) (Qf I.ok.bsz z)) (Qi _)
 ·have hi:i < src.length:=by
   have:=(qm h2).1
   unfold capσ at this
   simpa using this
  have hs:src[i]?=some src[i]:=qp hi
  unfold capσ at h2
  rw[Qg,hs]at h2
  have h2':(src[i].bind fun j=>(σ[j]?).join)=some v:=Option.some.inj h2
  cases q:src[i]with
  | none=>rw[q]at h2';cases h2'
  | some j=>
    rw[q]at h2' hs
    have h2'':(σ[j]?).join=some v:=h2'
    obtain⟨hx,hfr⟩:=S.cap i j x h1 hs
    obtain⟨m,_,hl⟩:=I.loc
    have hk2:X.env.kindOf x=some NameKind.cell∨X.env.kindOf x=some NameKind.free:=S.fr (x,NameKind.free) (PySem.mem_of_lookup hfr) rfl
    have hσ:σ[j]?=some (some v):=by
     cases z:σ[j]? with
     | none=>rw[z]at h2'';cases h2''
     | some o=>
       rw[z]at h2''
       have:o=some v:=h2''
       rw[this]
    obtain⟨u,r,l⟩:=hl j x v hx hσ (.inr hk2)
    refine⟨u,r,.inr ⟨Yg9 hfr hk2,?_⟩⟩
    rcases l with⟨z,_⟩ | ⟨_,c,hc,hcell⟩
    ·rcases hk2 with q2 | q2
     ·rw[q2]at z;cases z
     ·rw[q2]at z;cases z
    ·obtain⟨d,hd⟩:=Yhx (Yhw (env:=X.env) scope.names [] x c (PySem.mem_of_lookup hfr) hc)
     have e2:=sub x d hd
     rw[hc]at e2
     cases e2
     refine⟨c,?_,hcell.keeps hk⟩
     show(own++clOf X.env scope.names []).lookup x=some c
     rw[Yio,nofree x hfr]
     exact hd
 ·rcases Ybi e with e | ⟨_,e⟩
  ·exact⟨_,(hc.empty x c (PySem.mem_of_lookup e)).1⟩
  ·obtain⟨v,q⟩:=I.cell x c (sub x c e)
   exact⟨v,q.keeps hk⟩
 ·rcases Ybi e with e | ⟨_,e⟩
  ·exact I.hok.fresh (Nat.le_of_lt (owl x c e))
  ·exact I.freeC x c (sub x c e)
 ·unfold capσ
  rw[qe]
  exact S.len
theorem Yxo{pins:List (Addr × Obj)}{σ σ1:St}{H H':Hp}{s s':Shared}{fp:List Addr}{cl:List (Str × Addr)}{C:Addr}{pn:List (Addr × Obj)}(I:Inv X pins σ H s)(hf:∀b∈fp,FpOk X pins H b)(J:Inv (Ya3 X scope N cl C fp s H) pn σ1 H' s'):Inv X pins σ H' s':=
 I.call' J.os J.base J.hok J.bare fun b hb=>⟨(hf b hb).2.2.2.1,(hf b hb).2.1,(hf b hb).2.2.2.2.1,(hf b hb).2.2.2.2.2⟩
theorem Yox{pins:List (Addr × Obj)}{σ:St}{H:Hp}{s:Shared}{Q:VK}{it:Addr}{fp:List Addr}{tn:Nat→Heap→Prop}{J:It}{R:Value→Addr→Result→Shared→Prop}{E:Value→Shared→Prop}
 (S:CompSc X.N X.env.scope N src scope) (hc:X.calm=true) (hg:∀cl C fp s H,PG (Ya3 X scope N cl C fp s H) tg g) (hi:∀cl C fp s H,PIfs (Ya3 X scope N cl C fp s H) ifs ti) (he:∀cl C fp s H,PE (Ya3 X scope N cl C fp s H) elt te)
 (I:Inv X pins σ H s) (T:Turn X.prog X.w X.K tg J fp it tn) (st:tn 0 s.heap) (hf:∀b∈fp,FpOk X pins H b)
 (h:∀p,H p=none→∃W:Nat→Nat→St→Hp→Prop,(∃m,W 0 m (capσ src σ) (upd H p (.lst [])))∧∀i m σ1 H2,W i m σ1 H2→
  (J.stop i H2∧Q (.ref p) H2)∨
  (J.go i H2∧∀x H3,J.yld i H2 x H3→g x σ1 H3 fun σ4 H4=>ti σ4 H4 fun b H5=>if b=true then te σ4 H5 fun v H6=>∃xs,H6 p=some (.lst xs)∧xs.length < sizeLine∧∃m',m' < m∧W (i+1) m' σ4 (upd H6 p (.lst (xs++[v])))else ∃m',m' < m∧W (i+1) m' σ4 H5))
 (hR:∀(D C:Addr) (s':Shared) (H':Hp) (m:Str→Option Value),Inv X pins σ H' s'→s'.heap.Ns C m→H' C=none→C≠X.env.locals→X.s₀.heap.objs.size≤C→(∀x c,X.env.cells.lookup x=some c→c≠C)→(∀p∈X.pn++pins,p.1≠C)→Q (.ref D) H'→R (.ref D) C (.ok .next) s') :
 wpAny (model X.prog X.w) X.A (newList []) (fun acc s₃=>wpAny (model X.prog X.w) X.A (newFunctionEnv scope X.env.globals (clOf X.env scope.names []) [] X.env.qual none .none (some X.env)) (fun cenv s₄=>
  codeAny (model X.prog X.w) X.A (.compStart (.ListComp elt [⟨tg,iter,ifs,0⟩] scope pos) 0 (.ref it) acc { cenv with scope:=relabel scope X.env }) (R acc cenv.locals) s₄) E s₃) E s:=by
 refine wpAny_newObj_type (Yqt ?_)
 have hfree:H s.heap.objs.size=none:=I.fresh
 obtain⟨W,⟨m0,w0⟩,turn⟩:=h s.heap.objs.size hfree
 have I3:Inv X pins σ (upd H s.heap.objs.size (.lst [])) { s with heap:=s.heap.push { cls:=.type "list",dict:=none,data:=.seq ([]:List Value).toArray },toks:=s.toks }:=I.lnew (ys:=[]) (its:=[]) .nil (Nat.zero_le _)
 generalize hD:s.heap.objs.size=Dd at *
 generalize hH3:upd H Dd (.lst [])=H3 at *
 have kp0:∀b o,s.heap.get? b=some o→(s.heap.push { cls:=.type "list",dict:=none,data:=.seq ([]:List Value).toArray }).get? b=some o:=fun b o e=>qd _ e
 have lt0:∀b o,s.heap.get? b=some o→b≠Dd:=fun b o e=>by rw[←hD];exact ql (qk e)
 generalize hs3:s.heap.push { cls:=.type "list",dict:=none,data:=.seq ([]:List Value).toArray }=hp3 at *
 have f3:∀b∈fp,FpOk X pins H3 b:=fun b hb=>by
  obtain⟨o,e,_⟩:=T.obj _ _ st b hb
  refine⟨?_,(hf b hb).2⟩
  rw[←hH3,y4 (lt0 b o e)]
  exact(hf b hb).1
 have ob3:∀b∈fp,∃o,hp3.get? b=some o:=fun b hb=>by
  obtain⟨o,e,_⟩:=T.obj _ _ st b hb
  exact⟨o,kp0 b o e⟩
 dsimp only
 have hns₁:(pushCells (hp3.push { cls:=.type "dict",data:=.dict #[] }) scope.names).Ns hp3.objs.size (fun _=>none):=(Heap.Ns.new hp3 (.type "dict")).keeps (pushCells_keeps _ _)
 have old:∀b o,hp3.get? b=some o→(pushCells (hp3.push { cls:=.type "dict",data:=.dict #[] }) scope.names).get? b=some o:=fun b o e=>pushCells_keeps _ _ b o (qd _ e)
 have cok:=cellsFrom_ok scope.names (hp3.push { cls:=.type "dict",data:=.dict #[] }) (hp3.objs.size+1) [] ⟨fun _ _ hm=>(nomatch hm),List.Pairwise.nil⟩ (by rw[Heap.size_push];exact qt _)
 rw[Heap.size_push]at cok
 have chas:∀x,scope.names.lookup x=some NameKind.cell→∃c,(cellsFrom (hp3.objs.size+1) scope.names []).lookup x=some c:=fun x hx=>Option.isSome_iff_exists.mp (PySem.W.cellsFrom_some _ _ _ (.inl hx))
 have cmem:∀x c,(x,c)∈cellsFrom (hp3.objs.size+1) scope.names []→(x,NameKind.cell)∈scope.names:=fun x c h=>Yfd _ _ x c h
 generalize cellsFrom (hp3.objs.size+1) scope.names []=own at *
 generalize pushCells (hp3.push { cls:=.type "dict",data:=.dict #[] }) scope.names=h₁ at *
 have I4:Inv (Ya3 X scope N (own++clOf X.env scope.names []) hp3.objs.size fp { s with heap:=hp3,toks:=s.toks } H3) [] (capσ src σ) H3 { s with heap:=h₁,toks:=s.toks }:=
  Ytf (s:={ s with heap:=hp3,toks:=s.toks }) (tk:=s.toks) S I3 f3 ob3 hns₁ old cok cmem chas
 have st4:tn 0 h₁:=T.keep _ _ _ st fun b _ o e=>old b o (kp0 b o e)
 have hCl:hp3.objs.size≠X.env.locals:=Nat.ne_of_gt I3.lt
 have hCc:∀x c,X.env.cells.lookup x=some c→c≠hp3.objs.size:=fun x c e=>by
  obtain⟨v,q⟩:=I3.cell x c e
  exact ql q.lt
 have hCp:∀p∈X.pn++pins,p.1≠hp3.objs.size:=fun p hp=>ql (qk (I3.pin p hp).1)
 have stat:∀{H':Hp},(∀b∈fp,H' b=none)→∀b∈fp,FpOk (Ya3 X scope N (own++clOf X.env scope.names []) hp3.objs.size fp { s with heap:=hp3,toks:=s.toks } H3) [] H' b:=fun {H'} hn b hb=>by
  obtain⟨e1,e2⟩:=I4.ok.exf b hb
  exact⟨hn b hb,e1,I4.ok.exfs b hb,.inl hb,e2,fun p hp=>nomatch hp⟩
 have loop:codeAny (model X.prog X.w) X.A (.compLoop (.ListComp elt [⟨tg,iter,ifs,0⟩] scope pos) 0 (.ref it) (.ref Dd) (compEnvC scope (own++clOf X.env scope.names []) hp3.objs.size X.env)) (R (.ref Dd) hp3.objs.size) { s with heap:=h₁,toks:=s.toks }:=by
  refine Ygs (fun n s'=>∃i σ' H',Inv (Ya3 X scope N (own++clOf X.env scope.names []) hp3.objs.size fp { s with heap:=hp3,toks:=s.toks } H3) [] σ' H' s'∧tn i s'.heap∧(∀b∈fp,H' b=none)∧W i n σ' H') ?_ m0 ⟨0,_,H3,I4,st4,fun b hb=>(f3 b hb).1,w0⟩
  rintro n s3 ⟨i,σ3,H3',I3',st3,fr3,w3⟩
  rcases turn i n σ3 H3' w3 with⟨stop,qn⟩ | ⟨go,step⟩
  ·refine thn (T.done (Ya3 X scope N (own++clOf X.env scope.names []) hp3.objs.size fp { s with heap:=hp3,toks:=s.toks } H3) rfl rfl rfl hc i [] s3 σ3 H3' _ I3' (stat fr3) st3 stop) fun r s4 hx_=>?_
   obtain⟨hr,I5⟩:=hx_
   subst hr
   obtain⟨m,hm,_⟩:=I5.loc
   exact hR Dd hp3.objs.size s4 H3' m (Yxo I3 f3 I5) hm I5.free hCl (Qf I3.sz (qt _)) hCc hCp qn
  ·refine thn (T.item (Ya3 X scope N (own++clOf X.env scope.names []) hp3.objs.size fp { s with heap:=hp3,toks:=s.toks } H3) rfl rfl rfl hc i [] s3 σ3 H3' _ I3' (stat fr3) st3 go) fun r s4 hx_=>?_
   obtain⟨u,hr,h4⟩:=hx_
   subst hr
   refine thn h4 fun _ s5 hx_=>?_
   obtain⟨x,H5,I5,r5,y5,st5,fr5⟩:=hx_
   have I5':=I5.pinned (stat fr5) (T.obj _ _ st5)
   have un:∀{α:Type} {t:Sem α} {Q':α→Shared→Prop} {E':Value→Shared→Prop} {s':Shared},wpAny (model X.prog X.w) X.A t Q' (fun _ _=>False) s'→wpAny (model X.prog X.w) X.A t Q' E' s':=fun h=>wpAny_mono h (fun _ _ q=>q) fun _ _ f=>f.elim
   refine un (thn (hg _ _ _ _ _ _ s5 σ3 H5 x u _ I5' r5 (step x H5 y5)) fun _ s6 hx_=>?_)
   obtain⟨σ6,H6,I6,q6⟩:=hx_
   refine un (thn (hi _ _ _ _ _ _ s6 σ6 H6 _ I6 q6) fun ok s7 hx_=>?_)
   obtain⟨H7,I7,q7⟩:=hx_
   have again:∀{H8:Hp} {s8:Shared} {m':Nat},m' < n→Inv (Ya3 X scope N (own++clOf X.env scope.names []) hp3.objs.size fp { s with heap:=hp3,toks:=s.toks } H3) ([]++Yon fp s5.heap) σ6 H8 s8→W (i+1) m' σ6 H8→
    ∃m,m < n∧∃i σ' H',Inv (Ya3 X scope N (own++clOf X.env scope.names []) hp3.objs.size fp { s with heap:=hp3,toks:=s.toks } H3) [] σ' H' s8∧tn i s8.heap∧(∀b∈fp,H' b=none)∧W i m σ' H':=fun {H8 s8 m'} hm I8 w8=>by
    refine⟨m',hm,i+1,σ6,H8,I8.unpinned,T.keep _ _ _ st5 fun b hb o e=>(I8.pin (b,o) (Qp _ (Qp _ (Ygk hb e)))).1,fun b hb=>?_,w8⟩
    obtain⟨o,e,d⟩:=T.obj _ _ st5 b hb
    exact(I8.pin (b,o) (Qp _ (Qp _ (Ygk hb e)))).2.1
   cases ok with
   | false=>
     rw[if_neg qh]at q7 ⊢
     obtain⟨m',hm,w7⟩:=q7
     exact again hm I7 w7
   | true=>
     rw[if_pos rfl]at q7 ⊢
     refine un (thn (he _ _ _ _ _ _ s7 σ6 H7 _ I7 q7) fun y s8 hx_=>?_)
     obtain⟨v,H8,I8,r8,q8⟩:=hx_
     obtain⟨xs,e8,z8,m',hm,w8⟩:=q8
     refine un (thn (Yow _ s8 σ6 H8 (.ref Dd) [v] (.ref Dd) [y] (fun _ H9=>H9=upd H8 Dd (.lst (xs++[v]))) I8 rfl (.cons r8 .nil) ⟨Dd,xs,v,rfl,rfl,e8,z8,rfl⟩) fun _ s9 hx_=>?_)
     obtain⟨_,H9,I9,_,q9⟩:=hx_
     subst q9
     exact again hm I9 w8
 exact codeAny_compStart_list loop (T.self _ _ _ _ _ st4 loop)
theorem y0i(S:CompSc X.N X.env.scope N src scope)(hc:X.calm=true)(hit:PI X tg iter wi)(hg:∀cl C fp s H,PG (Ya3 X scope N cl C fp s H) tg g)(hi:∀cl C fp s H,PIfs (Ya3 X scope N cl C fp s H) ifs ti)(he:∀cl C fp s H,PE (Ya3 X scope N cl C fp s H) elt te)
 (hs:∀x,foldedSetIterable iter X.env x=pure x:=by intro _;rfl):PE X (.ListComp elt [⟨tg,iter,ifs,0⟩] scope pos) (tLC wi src g ti te):=by
 intro pins s σ H Q I h
 rw[eval_ListComp]
 have hcl:closureFor scope X.env=pure (clOf X.env scope.names []):=Yf1 fun y hy hf=>I.ok.has y.1 (S.fr y hy hf)
 refine wpAny_comprehension_free (use:=none) rfl hs hcl S.kind S.names ?_
 refine thn (hit pins s σ H _ I h) fun v s1 h1=>thn h1 fun itv s2 hx_=>?_
 obtain⟨it,fp,tn,J,H2,e,I2,T,st2,f2,q⟩:=hx_
 subst e
 refine Yox (Q:=Q) (R:=fun acc C=>compPost (model X.prog X.w) X.A X.xe none (EP X pins σ Q) acc C) S hc hg hi he I2 T st2 f2 q fun D C s' H' m I' hm hC hCl hCs hCc hCp hq=>?_
 refine⟨m,hm,fun h' sb=>?_⟩
 exact⟨.ref D,H',I'.turned (t':=s'.toks) (fun b o hb e=>(sb.2 b hb).trans e) hC hCl (.inr hCs) hCc hCp,rfl,hq⟩
theorem y0j{i:Nat}{y:Str}{py spos:Pos}(S:CompSc X.N X.env.scope N src scope)(hc:X.calm=true)(hit:PI X tg iter wi)(hg:∀cl C fp s H,PG (Ya3 X scope N cl C fp s H) tg g)(hi:∀cl C fp s H,PIfs (Ya3 X scope N cl C fp s H) ifs ti)(he:∀cl C fp s H,PE (Ya3 X scope N cl C fp s H) elt te)
 (hN:X.N.Nodup) (hy:X.N[i]?=some y) (hx:Loc X.env.scope y) (hsw:swapsWith (.ListComp elt [⟨tg,iter,ifs,0⟩] scope pos) (some (.Name y py)) spos.line X.env=pure true)
 (hf:X.fn y=true∨X.env.scope.names.lookup y=some .local:=by first | exact .inl rfl | exact .inr rfl | assumption)
 (hs:∀x,foldedSetIterable iter X.env x=pure x:=by intro _;rfl):PS X (.Assign [.Name y py] (.ListComp elt [⟨tg,iter,ifs,0⟩] scope pos) spos) (tAsg (tLC wi src g ti te) (Ys8 i)):=by
 intro pins s σ H D I h
 rw[exec_Assign_Name_used _ _ _ _ hsw]
 refine wpAny_bind (wpAny_standAt (wpAny_bind ?_))
 show wpAny _ X.A (do let _ ←comprehension (.ListComp elt [⟨tg,iter,ifs,0⟩] scope pos) scope X.env _ (newList []) false (eval iter X.env) (some (assign (.Name y py) X.env))) _ _ s
 have hcl:closureFor scope X.env=pure (clOf X.env scope.names []):=Yf1 fun y hy hf=>I.ok.has y.1 (S.fr y hy hf)
 refine wpAny_bind (wpAny_mono (wpAny_comprehension_free (use:=some (assign (.Name y py) X.env)) (Q:=fun _ s'=>SP X pins D .next s') rfl hs hcl S.kind S.names ?_) (fun _ s' hq=>wpAny_pure (wpAny_pure hq)) fun _ _ e=>e)
 refine thn (hit pins s σ H _ I h) fun v s1 h1=>thn h1 fun itv s2 hx_=>?_
 obtain⟨it,fp,tn,J,H2,e,I2,T,st2,f2,q⟩:=hx_
 subst e
 refine Yox (Q:=fun x H1=>Ys8 i x σ H1 D.nx) (R:=fun acc C=>compPost (model X.prog X.w) X.A X.xe (some (assign (.Name y py) X.env)) (fun _ s'=>SP X pins D .next s') acc C) S hc hg hi he I2 T st2 f2 q fun Dd C s' H' m I' hm hC hCl hCs hCc hCp hq=>?_
 show wpAny _ X.A (assign (.Name y py) X.env (.ref Dd)) _ _ s'
 refine wpAny_assign_Name (Yom I' hN hy hx (v:=.ref Dd) rfl (fun s'' I'' hsb=>?_) hf)
 obtain⟨a,sb,ha⟩:=hsb
 have hCa:C≠a:=by
  rcases ha with e | e
  ·rw[e];exact hCl
  ·exact Ne.symm (hCc y a e)
 refine⟨m,hm.sameBut sb hCa,fun h' sb'=>?_⟩
 exact⟨_,H',I''.turned (t':=s''.toks) (fun b o hb e=>(sb'.2 b hb).trans e) hC hCl (.inr hCs) hCc hCp,hq⟩
end
end L2
namespace M
open PySem PySem.Spec PyProof.Rows L2
section
section
def Rise(xs:Array Nat):Prop:=xs.toList.Pairwise (· < ·)
theorem Ym4{xs:Array Nat}(hr:Rise xs)(j:Nat):∀(fuel lo hi:Nat),lo≤hi→hi≤xs.size→hi - lo≤fuel→
 (∀(i:Nat) (h:i < xs.size),i < lo→xs[i] < j)→(∀(i:Nat) (h:i < xs.size),hi≤i→j≤xs[i])→
 SetTable.below.go xs j fuel lo hi≤xs.size∧(∀(i:Nat) (h:i < xs.size),i < SetTable.below.go xs j fuel lo hi→xs[i] < j)∧(∀(i:Nat) (h:i < xs.size),SetTable.below.go xs j fuel lo hi≤i→j≤xs[i])
 | 0,lo,hi,h1,h2,h3,h4,h5=>by
   have e:lo=hi:=by lia
   subst e
   rw[SetTable.below.go]
   exact⟨h2,h4,h5⟩
 | fuel+1,lo,hi,h1,h2,h3,h4,h5=>by
   have mono:∀(i k:Nat) (hi:i < xs.size) (hk:k < xs.size),i < k→xs[i] < xs[k]:=fun i k hi hk h=>by
    have:=List.pairwise_iff_getElem.mp hr i k (by simpa using hi) (by simpa using hk) h
    simpa using this
   rw[SetTable.below.go]
   by_cases hl:lo < hi
   ·rw[if_pos hl]
    have hm:(lo+hi) / 2 < xs.size:=by lia
    have hg:xs.getD ((lo+hi) / 2) j=xs[(lo+hi) / 2]:=by simp[Array.getD,hm]
    dsimp only
    rw[hg]
    by_cases hlt:xs[(lo+hi) / 2] < j
    ·rw[if_pos hlt]
     refine Ym4 hr j fuel _ _ (by lia) h2 (by lia) (fun i hi' hh=>?_) h5
     by_cases e:i=(lo+hi) / 2
     ·subst e;exact hlt
     ·exact Nat.lt_trans (mono i _ hi' hm (by lia)) hlt
    ·rw[if_neg hlt]
     refine Ym4 hr j fuel _ _ (by lia) (by lia) (by lia) h4 (fun i hi' hh=>?_)
     by_cases e:i=(lo+hi) / 2
     ·subst e;lia
     ·have:=mono _ i hm hi' (by lia)
      lia
   ·rw[if_neg hl]
    have e:lo=hi:=by lia
    subst e
    exact⟨h2,h4,h5⟩
theorem Ymg{xs:Array Nat}(hr:Rise xs)(j:Nat):SetTable.below xs j≤xs.size∧(∀a∈xs.toList.take (SetTable.below xs j),a < j)∧(∀a∈xs.toList.drop (SetTable.below xs j),j≤a):=by
 obtain⟨h1,h2,h3⟩:=Ym4 hr j xs.size 0 xs.size (Nat.zero_le _) (qt _) (by lia) (fun i _ h=>absurd h (Nat.not_lt_zero _)) (fun i h h'=>absurd h (by lia))
 have e:SetTable.below xs j=SetTable.below.go xs j xs.size 0 xs.size:=rfl
 rw[e]
 refine⟨h1,fun a ha=>?_,fun a ha=>?_⟩
 ·obtain⟨i,hi,rfl⟩:=List.mem_iff_getElem.mp ha
  rw[List.length_take]at hi
  have hi':i < xs.size:=by have:xs.toList.length=xs.size:=by simp
                           lia
  rw[List.getElem_take,Array.getElem_toList]
  exact h2 i hi' (by lia)
 ·obtain⟨i,hi,rfl⟩:=List.mem_iff_getElem.mp ha
  rw[List.length_drop]at hi
  have hs:xs.toList.length=xs.size:=by simp
  rw[List.getElem_drop,Array.getElem_toList]
  exact h3 _ (by lia) (by lia)
theorem Ym5{α:Type}(xs:Array α)(p:Nat)(x:α):(SetTable.insertAt xs p x).toList=xs.toList.take p++x::xs.toList.drop p:=by
 unfold SetTable.insertAt
 simp[Array.toList_extract,List.extract_eq_drop_take]
 exact List.take_of_length_le (by simp)
theorem Yqu{xs:Array Nat}(hr:Rise xs)(j:Nat)(hn:xs[SetTable.below xs j]?≠some j):Rise (SetTable.insertAt xs (SetTable.below xs j) j):=by
 obtain⟨h1,h2,h3⟩:=Ymg hr j
 unfold Rise at hr ⊢
 rw[Ym5]
 generalize hp:SetTable.below xs j=p at h1 h2 h3 hn ⊢
 rw[←Array.getElem?_toList]at hn
 generalize xs.toList=l at hr h2 h3 hn ⊢
 have hr2:=hr
 rw[←List.take_append_drop p l,List.pairwise_append]at hr
 obtain⟨r1,r2,r3⟩:=hr
 have hgt:∀a∈l.drop p,j < a:=by
  cases hd:l.drop p with
  | nil=>intro a ha;cases ha
  | cons b r=>
    rw[hd]at r2 h3
    have hb:l[p]?=some b:=by
     have:(l.drop p)[0]?=some b:=by rw[hd];rfl
     rwa [List.getElem?_drop,Nat.add_zero]at this
    have hjb:j < b:=Nat.lt_of_le_of_ne (h3 b qg) (fun z=>hn (by rw[hb,z]))
    intro a ha
    rcases qr ha with rfl | ha
    ·exact hjb
    ·exact Nat.lt_trans hjb ((List.pairwise_cons.mp r2).1 a ha)
 rw[List.pairwise_append]
 refine⟨r1,List.pairwise_cons.mpr ⟨hgt,r2⟩,fun a ha b hb=>?_⟩
 rcases qr hb with rfl | hb
 ·exact h2 a ha
 ·exact Nat.lt_trans (h2 a ha) (hgt b hb)
theorem Yu2{t:SetTable}{j:Nat}(h:∀i,t.slot j≠.live i):t.place[SetTable.below t.place j]?≠some j:=fun z=>by
 refine h (SetTable.below t.place j) ?_
 unfold SetTable.slot
 dsimp only
 rw[z]
 simp
theorem Yip{t:SetTable}{ha:Nat→Int}{h:Int}:∀(fuel:Nat) (p:SetTable.Probe) {j:Nat} {d:Option Nat},(∀x,p.dummy=some x→∀i,t.slot x≠.live i)→
 SetTable.probe.go t ha h fuel p=some (.empty j d)→∀i,t.slot (d.getD j)≠.live i
 | 0,p,j,d,_,e=>by rw[SetTable.probe.go]at e;cases e
 | fuel+1,p,j,d,hd,e=>by
   rw[SetTable.probe.go]at e
   split at e
   ·rename_i hs
    cases e
    intro i
    cases hp:p.dummy with
    | none=>rw[Option.getD_none,hs];exact fun z=>nomatch z
    | some x=>exact hd x hp i
   ·rename_i hs
    refine Yip fuel _ (fun x hx i=>?_) e
    have hx':x=p.j:=by
     unfold SetTable.advance at hx
     split at hx
     ·exact(Option.some.inj hx).symm
     ·exact(Option.some.inj hx).symm
    rw[hx',hs]
    exact fun z=>nomatch z
   ·split at e
    ·cases e
    ·refine Yip fuel _ (fun x hx i=>hd x ?_ i) e
     unfold SetTable.advance at hx
     split at hx
     ·exact hx
     ·exact hx
def Tab(bt:Bool)(t:SetTable):Prop:=(bt=false→t.led=true)∧(t.plain=true→Rise t.place)
theorem Tab.standIn{bt:Bool}{t:SetTable}(h:Tab bt t)(n:Nat):Tab bt (t.standIn n):=⟨h.1,fun z=>nomatch z⟩
theorem Tab.off{bt:Bool}{t:SetTable}(h:Tab bt t):Tab bt { t with plain:=false }:=⟨h.1,fun z=>nomatch z⟩
theorem Tab.fresh{bt:Bool}:Tab bt (.fresh 0 0 (!bt)):=⟨fun h=>by subst h;rfl,fun _=>.nil⟩
theorem Tab.layNew{bt:Bool}{t:SetTable}(h:Tab bt t)(es:Array (Int × Value))(hh:Int)(x:Value):Tab bt (PySem.layNew t es hh x).2.1:=by
 unfold PySem.layNew
 split
 ·rename_i slot wd hf
  dsimp only
  unfold SetTable.orStandIn
  split
  ·refine⟨h.1,fun z=>?_⟩
   refine Yqu (h.2 z) slot (Yu2 ?_)
   unfold SetTable.freeSlot at hf
   split at hf
   ·rename_i j dummy hp
    cases hf
    exact Yip _ _ (fun x hx=>by simp[SetTable.probeStart]at hx) hp
   ·cases hf
  ·exact⟨h.1,fun z=>nomatch z⟩
 ·exact h.standIn _
theorem Yu3{mask finger moves:Nat}{led plain:Bool}{hs:Array Int}{t:SetTable}{o:Array Nat}(h:SetTable.laid mask finger moves led plain hs=some (t,o)):Rise t.place∧t.led=led∧t.plain=plain:=by
 unfold SetTable.laid at h
 obtain⟨owner,_,h⟩:=qa h
 cases h
 refine⟨?_,rfl,rfl⟩
 unfold Rise
 show(((List.range (mask+1)).filterMap fun j=>(owner.getD j none).map (j,·)).map (·.1)).Pairwise (· < ·)
 rw[List.map_filterMap]
 refine List.Pairwise.filterMap _ (fun a b hab x hx y hy=>?_) List.pairwise_lt_range
 simp at hx hy
 obtain⟨_,_,rfl⟩:=hx
 obtain⟨_,_,rfl⟩:=hy
 exact hab
theorem Tab.relayAll{bt:Bool}{t:SetTable}(h:Tab bt t)(es:Array (Int × Value))(n:Nat):Tab bt (PySem.relayAll t es n).2.1:=by
 unfold PySem.relayAll
 split
 ·rename_i t' order hr
  obtain⟨h1,h2,h3⟩:=Yu3 hr
  dsimp only
  split
  ·exact⟨fun z=>by rw[h2];exact h.1 z,fun _=>h1⟩
  ·exact h.standIn _
 ·exact h.standIn _
end
end
section
section
variable {prog:Program} {w:World} {A:Around} {E:Value→Shared→Prop} {s:Shared}
noncomputable def kOf(e:Int × Value):Int:=match e.2 with
 | .int n _=>n
 | _=>0
noncomputable abbrev byT(w:World):Bool:=w.params.followText "set-order"
def SetI(prog:Program)(w:World)(h:Heap)(a:Addr)(ns:List Int):Prop:=
 ∃o es ep t,h.get? a=some o∧o.ExactSet∧o.data=.set es ep t∧ElemsOf (intKind prog w) es.toList∧es.toList.map kOf=ns∧ns.Nodup∧es.size < scanBound∧t.fits es.size=true∧Tab (byT w) t
theorem Yza{k:Int}{e:Int × Value}(h:(intKind prog w).is k e.2=true):kOf e=k:=by
 obtain⟨t,ht⟩:=Value.isInt_shape h
 unfold kOf
 rw[ht]
theorem Ysc{es:List (Int × Value)}(h:ElemsOf (intKind prog w) es){e:Int × Value}(he:e∈es):∃t,e=(hashInt (kOf e),.int (kOf e) t):=by
 obtain⟨⟨k,hk,hh⟩,_⟩:=h e he
 have hk':=Yza hk
 obtain⟨t,ht⟩:=Value.isInt_shape hk
 refine⟨t,?_⟩
 rw[hk']
 exact Prod.ext hh ht
theorem SetI.at{h h':Heap}{a:Addr}{ns:List Int}(x:SetI prog w h a ns)(e:∀o,h.get? a=some o→h'.get? a=some o):SetI prog w h' a ns:=
 let ⟨o,es,ep,t,ho,r⟩:=x
 ⟨o,es,ep,t,e o ho,r⟩
theorem SetI.len{h:Heap}{a:Addr}{ns:List Int}(x:SetI prog w h a ns):ns.length < scanBound:=by
 obtain⟨o,es,ep,t,ho,hex,hd,hel,hns,hnd,hb,_⟩:=x
 rw[←hns,qe,qi]
 exact hb
theorem Yu4{h:Heap}{a:Addr}{o:Obj}{es:Array (Int × Value)}{ep:Nat}{t:SetTable}(ho:h.get? a=some o)(hd:o.data=.set es ep t)(es':Array (Int × Value))(t':SetTable) :
 (h.update a (Obj.putSet es' t')).get? a=some { o with data:=.set es' (ep+1) t' }:=by
 have:=Heap.get?_update_self (Obj.putSet es' t') ho (by rw[putSet_of es' t' hd];rfl)
 rw[putSet_of es' t' hd]at this
 exact this
theorem Ysd{g:Bool→Sem Unit}(hg:∀(b:Bool) (s₁:Shared) (Q':Unit→Shared→Prop),Q' () s₁→wpAny (model prog w) A (g b) Q' E s₁)
 {a:Addr} {o:Obj} {es:Array (Int × Value)} {ep:Nat} {t:SetTable} (ho:s.heap.get? a=some o) (hex:o.ExactSet) (hd:o.data=.set es ep t)
 {es1:Array (Int × Value)} {t2:SetTable} {ms:List Int} (hel1:ElemsOf (intKind prog w) es1.toList) (hms:(es1.toList.map kOf).Perm ms) (hnd:ms.Nodup)
 (hb1:es1.size < scanBound) (hf2:t2.fits es1.size=true) (ht2:Tab (byT w) t2) {wasDummy:Bool} {R:Option Bool→Shared→Prop}
 (h:∀h' ns',Heap.SameBut a s.heap h'→SetI prog w h' a ns'→ns'.Perm ms→R (some true) { s with heap:=h' }) :
 wpAny (model prog w) A (do
  storeSet a es1 t2
  if (!wasDummy&&t2.tooFull)=true then do
      g (relayAll t2 es1 (SetTable.grown es1.size)).2.2
      storeSet a (relayAll t2 es1 (SetTable.grown es1.size)).1 (relayAll t2 es1 (SetTable.grown es1.size)).2.1
      pure (some true)
   else pure (some true)) R E s:=by
 refine wpAny_bind (wpAny_storeSet_of ho hd ?_ (fits_of_scanBound hb1))
 have ho1:=Yu4 ho hd es1 t2
 have hsb1:=Heap.SameBut.update s.heap a (Obj.putSet es1 t2)
 split
 ·have hp:=relayAll_perm t2 es1 (SetTable.grown es1.size)
  have hfr:=relayAll_fits t2 es1 (SetTable.grown es1.size)
  have htr:=ht2.relayAll es1 (SetTable.grown es1.size)
  generalize hRl:relayAll t2 es1 (SetTable.grown es1.size)=Rl at hp hfr htr ⊢
  obtain⟨es2,t3,gave2⟩:=Rl
  dsimp only at hp hfr htr ⊢
  have hel2:ElemsOf (intKind prog w) es2.toList:=hel1.perm hp
  have hsz:es2.size=es1.size:=by rw[←qi,hp.length_eq,qi]
  have hb2:es2.size < scanBound:=by rw[hsz];exact hb1
  have hp2:=(hp.map kOf).trans hms
  refine wpAny_bind (hg _ _ _ ?_)
  refine wpAny_bind (wpAny_storeSet_of ho1 rfl ?_ (fits_of_scanBound hb2))
  have ho2:=Yu4 ho1 rfl es2 t3
  exact wpAny_pure (h _ _ (hsb1.trans (Heap.SameBut.update _ a _)) ⟨_,es2,_,t3,ho2,hex,rfl,hel2,rfl,hp2.nodup_iff.mpr hnd,hb2,hfr,htr⟩ hp2)
 ·exact wpAny_pure (h _ _ hsb1 ⟨_,es1,_,t2,ho1,hex,rfl,hel1,rfl,hms.nodup_iff.mpr hnd,hb1,hf2,ht2⟩ hms)
theorem y0k{a:Addr}{ns:List Int}{k:Int}{u:Tok}{Q:Bool→Shared→Prop}(hS:SetI prog w s.heap a ns)(hroom:ns.length+1 < scanBound)
 (h:∀h' ns',Heap.SameBut a s.heap h'→SetI prog w h' a ns'→ns'.Perm (if k∈ns then ns else ns++[k])→Q (!decide (k∈ns)) { s with heap:=h' }) :
 wpAny (model prog w) A (setAddHashed a (.int k u) (hashInt k)) Q E s:=by
 have hS0:=hS
 obtain⟨o,es,ep,t,ho,hex,hd,hel,hns,hnd,hb,hf,ht⟩:=hS
 have hkey:(intKind prog w).is k (.int k u)=true:=intKind_is _ _ _ _
 have hsc:(Value.int k u).scannable=true:=rfl
 have hsz:es.size=ns.length:=by rw[←hns,qe,qi]
 unfold setAddHashed setAddHashedIn
 refine wpAny_holding (wpAny_bind (wpAny_setState_of ho hd hf ?_))
 dsimp only
 rw[byScan_of hsc hb hel]
 simp only[↓reduceIte]
 unfold setAddByScan
 refine wpAny_bind ?_
 refine wpAny_bind (wpAny_rule ?_)
 refine wpAny_bind (wpAny_setScan_of (knd:=intKind prog w) (k:=k) hkey ho hd hf hel ?_)
 cases hr:List.findIdx? (fun e=>(intKind prog w).is k e.2) es.toList with
 | some j=>
   dsimp only
   obtain⟨hj,hpj,_⟩:=List.findIdx?_eq_some_iff_getElem.mp hr
   have hk:k∈ns:=by
    rw[←hns,←Yza hpj]
    exact List.mem_map_of_mem (qx hj)
   refine wpAny_pure (wpAny_pure ?_)
   have e:s={ s with heap:=s.heap }:=by cases s;rfl
   have:=h s.heap ns (Heap.SameBut.refl a s.heap) hS0 (by rw[if_pos hk])
   rw[decide_eq_true hk]at this
   rw[e];exact this
 | none=>
   dsimp only
   have hk:k∉ns:=fun hk=>by
    rw[←hns]at hk
    obtain⟨e,he,hke⟩:=qw hk
    have h1:=List.findIdx?_eq_none_iff.mp hr e he
    obtain⟨t',ht'⟩:=Ysc hel he
    rw[ht',hke]at h1
    have h2:(intKind prog w).is k (.int k t')=true:=intKind_is _ _ _ _
    rw[h2]at h1
    exact Bool.noConfusion h1
   have hgw:∀(b:Bool) {s₁:Shared} {Q':Unit→Shared→Prop},Q' () s₁→wpAny (model prog w) A (match b with | true=>rule "set.scan.the-table-gave-way" | false=>pure ()) Q' E s₁:=
    fun b s₁ Q' hq=>by cases b<;>first | exact wpAny_pure hq | exact wpAny_rule hq
   have hperm:=layNew_perm t es (hashInt k) (.int k u)
   have hfits:=layNew_fits t es (hashInt k) (.int k u)
   have htab:=ht.layNew es (hashInt k) (.int k u)
   show wpAny (model prog w) A (do
    let (es,t,wasDummy,gave):=PySem.layNew t es (hashInt k) (.int k u)
    _) _ _ _
   generalize hL:layNew t es (hashInt k) (.int k u)=L at hperm hfits htab ⊢
   obtain⟨es1,t1,wasDummy,gave⟩:=L
   dsimp only at hperm hfits htab ⊢
   rw[Array.toList_push]at hperm
   have hel1:ElemsOf (intKind prog w) es1.toList:=(hel.push (knd:=intKind prog w) (k:=k) hkey hsc).perm hperm
   have hb1':es1.size < scanBound:=by rw[←qi,hperm.length_eq,qy,qi];simp;lia
   have hms:(es1.toList.map kOf).Perm (ns++[k]):=by
    have:=hperm.map kOf
    rw[List.map_append,hns]at this
    exact this
   have hnd1:(ns++[k]).Nodup:=by
    rw[List.nodup_append]
    refine⟨hnd,by simp,fun x hx y hy z=>?_⟩
    simp at hy
    subst hy
    exact hk (z ▸ hx)
   have hend:∀h' ns',Heap.SameBut a s.heap h'→SetI prog w h' a ns'→ns'.Perm (ns++[k])→Q true { s with heap:=h' }:=by
    intro h' ns' hsb hS' hp
    have:=h h' ns' hsb hS' (by rw[if_neg hk];exact hp)
    rw[decide_eq_false hk]at this
    exact this
   refine wpAny_bind (hgw _ ?_)
   split
   ·refine wpAny_bind ?_
    rw[hashByValue_scannable 8 hsc]
    refine wpAny_pure ?_
    refine Ysd ?_ ho hex hd hel1 hms hnd1 hb1' ?_ ?_ ?_
    ·intro b s₁ Q' hq;cases b<;>first | exact wpAny_pure hq | exact wpAny_rule hq
    ·split
     ·exact hfits
     ·exact SetTable.fits_plain_off hfits
    ·split
     ·exact htab
     ·exact htab.off
    ·intro h' ns' hsb hS' hp;dsimp only;exact wpAny_pure (hend h' ns' hsb hS' hp)
   ·refine wpAny_bind (wpAny_pure ?_)
    simp only[↓reduceIte]
    refine Ysd ?_ ho hex hd hel1 hms hnd1 hb1' hfits htab ?_
    ·intro b s₁ Q' hq;cases b<;>first | exact wpAny_pure hq | exact wpAny_rule hq
    ·intro h' ns' hsb hS' hp;dsimp only;exact wpAny_pure (hend h' ns' hsb hS' hp)
end
noncomputable def ddup:List Int→List Int→List Int
 | acc,[]=>acc
 | acc,k::r=>ddup (if k∈acc then acc else acc++[k]) r
theorem Yoy:∀(r a b:List Int),a.Perm b→(ddup a r).Perm (ddup b r)
 | [],_,_,h=>h
 | k::r,a,b,h=>by
   rw[ddup,ddup]
   refine Yoy r _ _ ?_
   by_cases hk:k∈a
   ·rw[if_pos hk,if_pos (h.mem_iff.mp hk)];exact h
   ·rw[if_neg hk,if_neg (fun z=>hk (h.mem_iff.mpr z))];exact h.append_right _
section
variable {prog:Program} {w:World} {A:Around} {R:Result→Shared→Prop} {I:Addr} {fp wr:List Addr} {G:Array GenState→Array GenState→Prop} {n:Nat} {P:Nat→Value→Prop} {St:Nat→Shared→Prop}
theorem Yse(W:WalksS prog w A.in1 I fp wr G n P St)(S:Addr)(hSf:S∉fp)(ms:List Int)(hn:ms.length=n)
 (hval:∀i v,P i v→∃t,v=.int (ms.getD i 0) t) (hb:n+1 < scanBound) :
 ∀(k i:Nat) (s:Shared) (ns:List Int),n - i=k→i≤n→St i s→ns.length≤i→SetI prog w s.heap S ns→
  (∀s' ns',Moved (S::wr) G s s'→SetI prog w s'.heap S ns'→ns'.Perm (ddup ns (ms.drop i))→R (.ok (.ret .none)) s')→
  codeAny (model prog w) A (.builtin "set.update.loop" ⟨[.ref S,.ref I],[]⟩) R s:=by
 have hSw:S∉wr:=fun h=>hSf (W.sub _ h)
 have hsub:∀b∈wr,b∈S::wr:=fun b hb=>qf _ hb
 intro k
 induction k with
 | zero=>
   intro i s ns hk hi hst hl hS hR
   have hin:i=n:=by lia
   subst hin
   refine codeAny_builtin F.entry_set_update_loop ?_
   rw[Around.under_plainId F.plain_set_update_loop _]
   show wpAny _ A.in1 (pyNext (.ref I) >>= _) _ _ s
   refine wpAny_bind (W.done s _ _ hst fun s' hm=>?_)
   show wpAny _ A.in1 (ret Value.none) _ _ s'
   refine wpAny_pure (hR s' ns (hm.mono hsub) (hS.at fun o e=>hm.heap S _ hSw e) ?_)
   rw[List.drop_of_length_le (by lia),ddup]
 | succ k ih=>
   intro i s ns hk hi hst hl hS hR
   have hlt:i < n:=by lia
   refine codeAny_builtin F.entry_set_update_loop ?_
   rw[Around.under_plainId F.plain_set_update_loop _]
   show wpAny _ A.in1 (pyNext (.ref I) >>= _) _ _ s
   refine wpAny_bind (W.item i s _ _ hlt hst fun v s' hP hst' hm=>?_)
   obtain⟨t,rfl⟩:=hval i v hP
   have hS':SetI prog w s'.heap S ns:=hS.at fun o e=>hm.heap S _ hSw e
   generalize hx:ms.getD i 0=x
   have hdrop:ms.drop i=x::ms.drop (i+1):=by
    rw[List.drop_eq_getElem_cons (by lia),←hx,Qn,qp (by lia)]
    rfl
   show wpAny _ A.in1 (holding [Value.int x t] (setAdd S (.int x t)) >>= _) _ _ s'
   refine wpAny_bind (wpAny_holding ?_)
   unfold setAdd
   refine wpAny_holding ?_
   refine wpAny_bind ((intKind prog w).pyHash (k:=x) (intKind_is _ _ _ _) ?_)
   refine y0k (s:={ s' with toks:=s'.toks+1 }) hS' (by lia) fun h' ns' hsb hS2 hp=>?_
   have hl2:ns'.length≤i+1:=by
    rw[hp.length_eq]
    split
    ·lia
    ·simp;lia
   refine wpAny_pure ⟨plainId_quiet F.plain_set_update_loop _,ih (i+1) _ ns' (by lia) hlt (W.frame _ s' _ _ hst' (Nat.le_succ _) fun b hb o e=>?_) hl2 hS2 fun s'' ns'' hm'' hS'' hp''=>?_⟩
   ·rw[hsb.2 b (fun h:b=S=>hSf (by rw[←h];exact hb))];exact e
   ·refine hR s'' ns'' (Moved.trans W.gtrans ((hm.mono hsub).then_heap (Nat.le_succ _) fun b o hb e=>?_) hm'') hS'' ?_
    ·rw[hsb.2 b (fun h:b=S=>hb (by rw[h];exact qg))];exact e
    ·rw[hdrop,ddup]
     exact hp''.trans (Yoy _ _ _ hp)
end
end
section
section
variable {prog:Program} {w:World} {A:Around} {E:Value→Shared→Prop} {s:Shared}
theorem Ym6:isSubtype (.type "tuple") (.type "set")=pure false:=by rw[isSubtype_type];kernel_rfl
theorem Yha:isSubtype (.type "tuple") (.type "frozenset")=pure false:=by rw[isSubtype_type];kernel_rfl
theorem Yfw{T newId initId:String}{Bi:Builtin}{args:List Value}{Q Q₁:Value→Shared→Prop}(ft:TypeCalled T newId initId)
 (hct:checkTypeCall T ⟨args,[]⟩=pure ()) (entryI:entryFor table initId=some Bi)
 (hnew:codeAny (model prog w) A.in1 (.call (.builtin newId) ⟨.type T::args,[]⟩) (wants Q₁ E) s)
 (hnext:∀obj s₁,Q₁ obj s₁→s₁.TypeIs obj T∧(∀(A':Around) (E':Value→Shared→Prop) (Q':Unit→Shared→Prop),Q' () s₁→wpAny (model prog w) A' (checkBuiltinCall initId ⟨obj::args,[]⟩) Q' E' s₁)∧
  wpAny (model prog w) A.in1.in1 (Bi ⟨obj::args,[]⟩)
   (fun fin s'=>match fin with | .done f=>wants (fun r s₂=>r=.none∧Q obj s₂) E (.ok f) s' | .again c'=>c'.quiet=true∧codeAny (model prog w) A.in1 c' (wants (fun r s₂=>r=.none∧Q obj s₂) E) s')
   (fun e s'=>wants (fun r s₂=>r=.none∧Q obj s₂) E (.error e) s') s₁) :
 wpAny (model prog w) A (call (.type T) args) Q E s:=by
 obtain⟨c,tl,hmro⟩:=ft.mro
 have hmade:=ft.made
 have hsub:=ft.sub
 refine wpAny_call (codeAny_of_tree ?_)
 show wpAny _ _ (callAny (.type T) _) _ _ _
 refine wpAny_pure ⟨Code.quiet_builtin _ (by decide +kernel),codeAny_builtin F.entry_type_call ?_⟩
 rw[Around.under_plain (weight_type_call_type T args []) rfl]
 have h1:=ft.notType
 have h2:=ft.canCreate
 repeat (any_goals (first | assumption | wp_step))
 refine codeAny_mono hnew fun r s₁ hr=>?_
 cases r with
 | error e=>exact hr
 | ok fl=>
   cases fl with
   | ret obj=>
     obtain⟨hT,hok,hsi⟩:=hnext _ _ hr
     have hli:=ft.init.lookup
     have hbi:=ft.init.bind obj
     repeat (any_goals (first | assumption | wp_step))
     refine codeAny_mono (codeAny_call_builtin ft.init.plain entryI (hok _ _ _ hsi)) fun r₂ s₂ hr₂=>?_
     cases r₂ with
     | error e=>exact hr₂
     | ok fl₂=>
       cases fl₂ with
       | ret r=>
         obtain⟨rfl,hq⟩:=hr₂
         repeat (any_goals (first | assumption | wp_step))
       | _=>exact hr₂.elim
   | _=>exact hr.elim
noncomputable abbrev emS(w:World):Obj:={ cls:=.type "set",dict:=none,data:=.set #[] 0 (.fresh 0 0 (!byT w)) }
theorem Yoz(a:Value){Q₁:Value→Shared→Prop}(h:Q₁ (.ref s.heap.objs.size) { s with heap:=s.heap.push (emS w) }) :
 codeAny (model prog w) A (.call (.builtin "set.__new__") ⟨[.type "set",a],[]⟩) (wants Q₁ E) s:=by
 refine codeAny_of_tree ?_
 show wpAny _ A.in1 (do checkBuiltinCall "set.__new__" ⟨[.type "set",a],[]⟩;again (.builtin "set.__new__" ⟨[.type "set",a],[]⟩)) _ _ s
 refine wpAny_bind (wpAny_of_eq (F.newCall_set_1 a) (wpAny_pure ⟨plainId_quiet F.plain_set_new _,codeAny_builtin F.entry_set_new ?_⟩))
 rw[Around.under_plainId F.plain_set_new _]
 unfold Builtin.«set.__new__» Builtin.Frozenset.newClass
 have hsub:=sub_set_self
 obtain⟨hp,g,d,tk,os⟩:=s
 dsimp only
 wp_walk
 refine wpAny_askSetting (wpAny_pure ?_)
 dsimp only
 simp only[newObj]
 refine wpAny_bind (wpAny_alloc (wpAny_pure ?_))
 exact wpAny_pure h
set_option maxRecDepth 100000 in
theorem Ym7{l:Addr}{items:Array Value}{ms:List Int}{Q:Value→Shared→Prop}
 (hh:A.handled=none) (hl:s.heap.IsList l items) (hi:IntsAre items.toList ms) (hb:items.size+1 < scanBound)
 (h:∀(h':Heap) (tk:Nat) ns,SetI prog w h' s.heap.objs.size ns→ns.Perm (ddup [] ms)→
  (∀b o,b < s.heap.objs.size→s.heap.get? b=some o→h'.get? b=some o)→Q (.ref s.heap.objs.size) { s with heap:=h',toks:=tk }) :
 wpAny (model prog w) A (call (.type "set") [.ref l]) Q E s:=by
 refine Yfw (Q₁:=fun obj s₁=>obj=.ref s.heap.objs.size∧s₁={ s with heap:=s.heap.push (emS w) }) F.called_set (F.typeCall_set_1 _) F.entry_set_init (Yoz _ ⟨rfl,rfl⟩) ?_
 rintro obj s₁ ⟨rfl,rfl⟩
 have hS:(s.heap.push (emS w)).get? s.heap.objs.size=some (emS w):=qo _ rfl
 have hT:Shared.TypeIs { s with heap:=s.heap.push (emS w) } (.ref s.heap.objs.size) "set":=⟨_,hS,rfl⟩
 refine⟨hT,fun A' E' Q' hq=>check_set_init_1 hT hq,?_⟩
 obtain⟨ol,hol,hcl,nl,hdl⟩:=hl
 obtain⟨ocls,odict,odata,oslots⟩:=ol
 simp only at hcl hdl
 subst hcl;subst hdl
 have hol':(s.heap.push (emS w)).get? l=some { cls:=.type "list",dict:=odict,data:=.seq items nl,slots:=oslots }:=qd _ hol
 have hsls:=F.sub_list_set
 have hslf:=F.sub_list_frozenset
 have hne:(Value.type "list"==Value.type "dict")=false:=by decide
 have hl1:(s.heap.push (emS w)).IsList l items:=⟨_,hol',rfl,nl,rfl⟩
 unfold Builtin.«set.__init__» noKeywords Builtin.Frozenset.updateFrom
 generalize hPI:pyIter=PI
 wp_walk
 subst hPI
 refine wpAny_pyIter_list hl1 ?_
 refine wpAny_bind (wpAny_runValue ?_)
 have hlS:l < s.heap.objs.size:=qk hol
 have hh3:A.in1.in1.in1.handled=none:=by simp[hh]
 have hneI:l≠(s.heap.push (emS w)).objs.size:=by
  rw[Heap.size_push];exact ql (qv hlS)
 have hSf:s.heap.objs.size∉[(s.heap.push (emS w)).objs.size,l]:=by
  rw[Heap.size_push];simp only[List.mem_cons,Qk,List.not_mem_nil,or_false,not_or]
  exact⟨ql (qz _),Nat.ne_of_gt hlS⟩
 have hlen:ms.length=items.size:=by have:=IntsAre.length hi;rw[qi]at this;exact this.symm
 have hval:∀(i:Nat) (v:Value),items[i]?=some v→∃t,v=.int (ms.getD i 0) t:=fun i v hv=>
  IntsAre.int_at hi i v (by rw[Array.getElem?_toList];exact hv)
 refine Yse ((Walks.list hh3 _ l hneI items).toS) s.heap.objs.size hSf ms hlen hval hb (items.size - 0) 0 _ [] (by lia) (Nat.zero_le _)
  ⟨⟨_,qo _ rfl,rfl,rfl⟩,(hl1.push _)⟩ (qt _) ?hS0 ?hR
 case hS0=>
  have hget:((s.heap.push (emS w)).push { cls:=.type "list_iterator",data:=.fields #[.ref l,.int 0 0] }).get? s.heap.objs.size=some (emS w):=qd _ hS
  exact⟨emS w,#[],0,_,hget,⟨rfl,rfl,rfl⟩,rfl,fun e he=>by simp at he,rfl,.nil,by decide,rfl,.fresh⟩
 case hR=>
  intro s' ns' hm hS' hp'
  obtain⟨h',g',d',tk',os'⟩:=s'
  have eg:g'=s.gens:=hm.gens
  have ed:d'=s.drawn:=hm.drawn
  have eo:os'=s.os:=hm.os
  subst eg;subst ed;subst eo
  show wpAny _ _ _ _ _ _
  refine wpAny_pure ?_
  show wpAny _ _ (ret Value.none) _ _ _
  refine wpAny_pure ⟨rfl,h h' tk' ns' hS' hp' fun b o hb e=>?_⟩
  have hb1:b≠s.heap.objs.size:=ql hb
  have hb2:b≠(s.heap.push (emS w)).objs.size:=by
   rw[Heap.size_push];exact ql (qv hb)
  exact hm.heap b o (by simp only[List.mem_cons,Qk,List.not_mem_nil,or_false,not_or];exact⟨hb1,hb2⟩) (qd _ (qd _ e))
set_option maxRecDepth 100000 in
theorem Yln{l:Addr}{items:Array Value}{ms:List Int}{Q:Value→Shared→Prop}
 (hh:A.handled=none) (hl:s.heap.IsTuple l items) (hi:IntsAre items.toList ms) (hb:items.size+1 < scanBound)
 (h:∀(h':Heap) (tk:Nat) ns,SetI prog w h' s.heap.objs.size ns→ns.Perm (ddup [] ms)→
  (∀b o,b < s.heap.objs.size→s.heap.get? b=some o→h'.get? b=some o)→Q (.ref s.heap.objs.size) { s with heap:=h',toks:=tk }) :
 wpAny (model prog w) A (call (.type "set") [.ref l]) Q E s:=by
 refine Yfw (Q₁:=fun obj s₁=>obj=.ref s.heap.objs.size∧s₁={ s with heap:=s.heap.push (emS w) }) F.called_set (F.typeCall_set_1 _) F.entry_set_init (Yoz _ ⟨rfl,rfl⟩) ?_
 rintro obj s₁ ⟨rfl,rfl⟩
 have hS:(s.heap.push (emS w)).get? s.heap.objs.size=some (emS w):=qo _ rfl
 have hT:Shared.TypeIs { s with heap:=s.heap.push (emS w) } (.ref s.heap.objs.size) "set":=⟨_,hS,rfl⟩
 refine⟨hT,fun A' E' Q' hq=>check_set_init_1 hT hq,?_⟩
 obtain⟨ol,hol,hcl,nl,hdl⟩:=hl
 obtain⟨ocls,odict,odata,oslots⟩:=ol
 simp only at hcl hdl
 subst hcl;subst hdl
 have hol':(s.heap.push (emS w)).get? l=some { cls:=.type "tuple",dict:=odict,data:=.seq items nl,slots:=oslots }:=qd _ hol
 have hsls:=Ym6
 have hslf:=Yha
 have hne:(Value.type "tuple"==Value.type "dict")=false:=by decide
 have hl1:(s.heap.push (emS w)).IsTuple l items:=⟨_,hol',rfl,nl,rfl⟩
 unfold Builtin.«set.__init__» noKeywords Builtin.Frozenset.updateFrom
 generalize hPI:pyIter=PI
 wp_walk
 subst hPI
 refine wpAny_pyIter_tuple hl1 ?_
 refine wpAny_bind (wpAny_runValue ?_)
 have hlS:l < s.heap.objs.size:=qk hol
 have hh3:A.in1.in1.in1.handled=none:=by simp[hh]
 have hneI:l≠(s.heap.push (emS w)).objs.size:=by
  rw[Heap.size_push];exact ql (qv hlS)
 have hSf:s.heap.objs.size∉[(s.heap.push (emS w)).objs.size,l]:=by
  rw[Heap.size_push];simp only[List.mem_cons,Qk,List.not_mem_nil,or_false,not_or]
  exact⟨ql (qz _),Nat.ne_of_gt hlS⟩
 have hlen:ms.length=items.size:=by have:=IntsAre.length hi;rw[qi]at this;exact this.symm
 have hval:∀(i:Nat) (v:Value),items[i]?=some v→∃t,v=.int (ms.getD i 0) t:=fun i v hv=>
  IntsAre.int_at hi i v (by rw[Array.getElem?_toList];exact hv)
 refine Yse ((Walks.tuple hh3 _ l hneI items).toS) s.heap.objs.size hSf ms hlen hval hb (items.size - 0) 0 _ [] (by lia) (Nat.zero_le _)
  ⟨⟨_,qo _ rfl,rfl,rfl⟩,(⟨_,qd _ hol',rfl,nl,rfl⟩)⟩ (qt _) ?hS0 ?hR
 case hS0=>
  have hget:((s.heap.push (emS w)).push { cls:=.type "tuple_iterator",data:=.fields #[.ref l,.int 0 0] }).get? s.heap.objs.size=some (emS w):=qd _ hS
  exact⟨emS w,#[],0,_,hget,⟨rfl,rfl,rfl⟩,rfl,fun e he=>by simp at he,rfl,.nil,by decide,rfl,.fresh⟩
 case hR=>
  intro s' ns' hm hS' hp'
  obtain⟨h',g',d',tk',os'⟩:=s'
  have eg:g'=s.gens:=hm.gens
  have ed:d'=s.drawn:=hm.drawn
  have eo:os'=s.os:=hm.os
  subst eg;subst ed;subst eo
  show wpAny _ _ _ _ _ _
  refine wpAny_pure ?_
  show wpAny _ _ (ret Value.none) _ _ _
  refine wpAny_pure ⟨rfl,h h' tk' ns' hS' hp' fun b o hb e=>?_⟩
  have hb1:b≠s.heap.objs.size:=ql hb
  have hb2:b≠(s.heap.push (emS w)).objs.size:=by
   rw[Heap.size_push];exact ql (qv hb)
  exact hm.heap b o (by simp only[List.mem_cons,Qk,List.not_mem_nil,or_false,not_or];exact⟨hb1,hb2⟩) (qd _ (qd _ e))
end
end
section
theorem Ymh{α:Type}{l:List α}{i:Nat}(h:i < l.length):(l[i]::l.eraseIdx i).Perm l:=by
 rw[List.eraseIdx_eq_take_drop_succ]
 have e:l=l.take i++l[i]::l.drop (i+1):=by
  rw[←List.drop_eq_getElem_cons h,List.take_append_drop]
 conv=>rhs;rw[e]
 exact List.perm_middle.symm
theorem Yu5{α:Type}(next:Nat→Nat):∀(fuel k:Nat) (left:List α) (out:Array α),left.length=fuel→(pickOrder.go next fuel k left out).toList.Perm (out.toList++left)
 | 0,k,left,out,h=>by
   rw[pickOrder.go]
   rw[List.length_eq_zero_iff.mp h,List.append_nil]
 | fuel+1,k,left,out,h=>by
   rw[pickOrder.go]
   have hlt:next k % left.length < left.length:=Nat.mod_lt _ (by lia)
   rw[qp hlt]
   dsimp only
   refine(Yu5 next fuel (k+1) _ _ (by rw[List.length_eraseIdx_of_lt hlt];lia)).trans ?_
   rw[Array.toList_push,List.append_assoc]
   exact(Ymh hlt).append_left _
theorem Yu6{α:Type}(next:Nat→Nat)(xs:Array α):(pickOrder next xs).toList.Perm xs.toList:=by
 have:=Yu5 next xs.size 0 xs.toList #[] (by simp)
 simpa [pickOrder]using this
section
variable {prog:Program} {w:World} {A:Around} {E:Value→Shared→Prop}
theorem Ytg{src:Source}{n:Nat}{Q:Nat→Shared→Prop}{s:Shared}(hn:0 < n)(h:∀i d',i < n→Q i { s with drawn:=d' }):wpAny (model prog w) A (choose src n) Q E s:=by
 intro Γ p hΓ
 unfold choose
 rw[Sem.wp_choose]
 refine⟨by lia,?_⟩
 rw[Sem.wp_pure]
 exact h _ _ (Nat.mod_lt _ hn)
theorem Ymi{α:Type}:∀(n:Nat) (xs:List α) (s:Shared) (Q:List α→Shared→Prop),xs.length=n→(∀ys d',ys.Perm xs→Q ys { s with drawn:=d' })→wpAny (model prog w) A (drawOrder n xs) Q E s
 | 0,xs,s,Q,h,hQ=>by
   rw[List.length_eq_zero_iff.mp h]at hQ ⊢
   show wpAny _ _ (pure _) _ _ _
   exact wpAny_pure (hQ [] s.drawn .nil)
 | n+1,[],s,Q,h,hQ=>by simp at h
 | n+1,x::xs,s,Q,h,hQ=>by
   show wpAny _ _ (_ >>= _) _ _ _
   refine wpAny_bind (Ytg (by simp) fun i d' hi=>?_)
   rw[qp hi]
   dsimp only
   refine wpAny_bind (Ymi n _ _ _ (by rw[List.length_eraseIdx_of_lt hi];lia) fun ys d2 hp=>?_)
   refine wpAny_pure (hQ _ d2 ((hp.cons _).trans ?_))
   exact Ymh hi
end
end
section
set_option maxRecDepth 100000
theorem Ysf:Manifest.owners.lookup (String.ofList ['r','o','t','a','r','e','t','i','_','t','e','s'].reverse)=some Manifest.sig_set_iterator:=by kernel_rfl
theorem slot_si_next:Slot "set_iterator" "__next__" "set_iterator.__next__":=
 .of (owner:="set_iterator") (n:="__next__") (by rw[typeLookup_type,builtinLookup_eq_fast];kernel_rfl) (by decide +kernel) (by decide +kernel) (by decide +kernel)
  (by first | exact .inl (by decide +kernel) | exact .inr (by decide +kernel)) (by rw[isSubtype_type];kernel_rfl)
theorem Ydp:entryFor table "set_iterator.__next__"=some Builtin.«set_iterator.__next__»:=entryFor_of_tree (by kernel_rfl)
theorem Yei(a:Value):argsOk "set_iterator.__next__" ⟨[a],[]⟩:=by
 unfold argsOk;rw[signature?_of (id:="set_iterator.__next__") (n:=['_','_','t','x','e','n','_','_']) (o:=['r','o','t','a','r','e','t','i','_','t','e','s']) (by kernel_rfl) Ysf];kernel_rfl
theorem Yi9:Slot "set_iterator" "__iter__" "set_iterator.__iter__":=
 .of (owner:="set_iterator") (n:="__iter__") (by rw[typeLookup_type,builtinLookup_eq_fast];kernel_rfl) (by decide +kernel) (by decide +kernel) (by decide +kernel)
  (by first | exact .inl (by decide +kernel) | exact .inr (by decide +kernel)) (by rw[isSubtype_type];kernel_rfl)
theorem Yo0(a:Value):argsOk "set_iterator.__iter__" ⟨[a],[]⟩:=by
 unfold argsOk;rw[signature?_of (id:="set_iterator.__iter__") (n:=['_','_','r','e','t','i','_','_']) (o:=['r','o','t','a','r','e','t','i','_','t','e','s']) (by kernel_rfl) Ysf];kernel_rfl
theorem Ym8:entryFor table "set_iterator.__iter__"=some Builtin.«dict_keyiterator.__iter__»:=
 entryFor_alias (id':="dict_keyiterator.__iter__") (by kernel_rfl) (by first | rfl | decide +kernel | (unfold String.splitOn;simp +decide [String.splitOnAux])) (by decide +kernel) (by kernel_rfl)
theorem Ylo:entryFor table "set.__iter__"=some Builtin.«frozenset.__iter__»:=
 entryFor_alias (id':="frozenset.__iter__") (by kernel_rfl) (by first | rfl | decide +kernel | (unfold String.splitOn;simp +decide [String.splitOnAux])) (by decide +kernel) (by kernel_rfl)
def SIt(h:Heap)(I:Addr)(first:Value)(i:Nat)(a:Addr)(n ep:Nat):Prop:=∃o,h.get? I=some o∧o.cls=.type "set_iterator"∧o.data=.fields #[first,.int i 0,.ref a,.int n 0,.int ep 0]
def SAt(h:Heap)(a:Addr)(es:Array (Int × Value))(ep:Nat)(t:SetTable):Prop:=∃o,h.get? a=some o∧o.ExactSet∧o.data=.set es ep t∧t.fits es.size=true
theorem SIt.at{h h':Heap}{I a:Addr}{f:Value}{i n ep:Nat}(x:SIt h I f i a n ep)(e:∀o,h.get? I=some o→h'.get? I=some o):SIt h' I f i a n ep:=let ⟨o,ho,r⟩:=x;⟨o,e o ho,r⟩
theorem SAt.at{h h':Heap}{a:Addr}{es:Array (Int × Value)}{ep:Nat}{t:SetTable}(x:SAt h a es ep t)(e:∀o,h.get? a=some o→h'.get? a=some o):SAt h' a es ep t:=let ⟨o,ho,r⟩:=x;⟨o,e o ho,r⟩
theorem SIt.typeIs{s:Shared}{I a:Addr}{f:Value}{i n ep:Nat}(x:SIt s.heap I f i a n ep):s.TypeIs (.ref I) "set_iterator":=let ⟨o,ho,hc,_⟩:=x;⟨o,ho,hc⟩
section
variable {prog:Program} {w:World} {A:Around} {E:Value→Shared→Prop} {s:Shared}
theorem Yu7{I a:Addr}{f:Value}{i n ep:Nat}{Q:Value→Shared→Prop}(hit:SIt s.heap I f i a n ep)(h:Q (.ref I) s):wpAny (model prog w) A (pyIter (.ref I)) Q E s:=by
 refine wpAny_pyIter_slot hit.typeIs Yi9 (wpAny_call_entry Yi9 hit.typeIs Ym8 ?_ (Yo0 _))
 show wpAny _ _ (ret (.ref I)) _ _ s
 exact wpAny_pure ⟨_,rfl,"set_iterator",_,hit.typeIs,slot_si_next.lookup,h⟩
theorem y0l{I a:Addr}{sl i ep nx:Nat}{es:Array (Int × Value)}{t:SetTable}{x:Value}{Q:Option Value→Shared→Prop}(hit:SIt s.heap I (.int sl 0) i a es.size ep)(ha:SAt s.heap a es ep t)
 (hn:∀(A':Around) (Q':Option (Value × Nat)→Shared→Prop) (E':Value→Shared→Prop),Q' (some (x,nx)) s→wpAny (model prog w) A' (setNext a sl i ep) Q' E' s)
 (hQ:∀h',SIt h' I (.int nx 0) (i+1) a es.size ep→Heap.SameBut I s.heap h'→Q (some x) { s with heap:=h' }):wpAny (model prog w) A (pyNext (.ref I)) Q E s:=by
 obtain⟨o,ho,hc,hd⟩:=id hit
 obtain⟨oa,hoa,hexa,hda,hfa⟩:=ha
 unfold pyNext
 refine wpAny_bind (wpAny_attempt (wpAny_callSpecial?_slot (name:=Str.ofString "__next__") hit.typeIs slot_si_next (wpAny_call_entry slot_si_next hit.typeIs Ydp ?_ (Yei _))))
 show wpAny _ _ (fieldsOf (.ref I) >>= _) _ _ s
 refine wpAny_bind (wpAny_fieldsOf ho hd ?_)
 show wpAny _ _ (setEntries a >>= _) _ _ s
 refine wpAny_bind (wpAny_setEntries_of hoa hda hfa ?_)
 rw[if_neg (by simp)]
 show wpAny _ _ (setNext a sl i ep >>= _) _ _ s
 refine wpAny_bind (hn _ _ _ ?_)
 show wpAny _ _ (setField (.ref I) 0 (rawInt nx) >>= _) _ _ s
 refine wpAny_bind (wpAny_setField ho hd (by simp) ?_)
 have ho1:=Heap.get?_update_self (Obj.mapFields (·.setIfInBounds 0 (rawInt nx))) ho (Obj.isFreed_of_fields (Obj.data_mapFields hd _))
 have hd1:=Obj.data_mapFields hd (·.setIfInBounds 0 (rawInt nx))
 show wpAny _ _ (setField (.ref I) 1 (rawInt (i+1)) >>= _) _ _ _
 refine wpAny_bind (wpAny_setField (s:={ s with heap:=s.heap.update I (Obj.mapFields (·.setIfInBounds 0 (rawInt nx))) }) ho1 hd1 (by simp) (wpAny_pure ⟨x,rfl,wpAny_pure (hQ _ ?_ ((Heap.SameBut.update ..).trans (Heap.SameBut.update ..)))⟩))
 exact⟨_,Heap.get?_update_self _ ho1 (Obj.isFreed_of_fields (Obj.data_mapFields hd1 _)),(Obj.cls_mapFields ..).trans ((Obj.cls_mapFields ..).trans hc),by
  rw[Obj.data_mapFields hd1];simp[rawInt]⟩
theorem y0m{I a:Addr}{sl i ep:Nat}{es:Array (Int × Value)}{t:SetTable}{Q:Option Value→Shared→Prop}(hh:A.handled=none)(hit:SIt s.heap I (.int sl 0) i a es.size ep)(ha:SAt s.heap a es ep t)
 (hn:∀(A':Around) (Q':Option (Value × Nat)→Shared→Prop) (E':Value→Shared→Prop),Q' none s→wpAny (model prog w) A' (setNext a sl i ep) Q' E' s)
 (hQ:∀h',Heap.ExtBut I s.heap h'→Q none { s with heap:=h' }):wpAny (model prog w) A (pyNext (.ref I)) Q E s:=by
 obtain⟨o,ho,hc,hd⟩:=id hit
 obtain⟨oa,hoa,hexa,hda,hfa⟩:=ha
 unfold pyNext
 refine wpAny_bind (wpAny_attempt (wpAny_callSpecial?_slot (name:=Str.ofString "__next__") hit.typeIs slot_si_next (wpAny_call_entry slot_si_next hit.typeIs Ydp ?_ (Yei _))))
 show wpAny _ _ (fieldsOf (.ref I) >>= _) _ _ s
 refine wpAny_bind (wpAny_fieldsOf ho hd ?_)
 show wpAny _ _ (setEntries a >>= _) _ _ s
 refine wpAny_bind (wpAny_setEntries_of hoa hda hfa ?_)
 rw[if_neg (by simp)]
 show wpAny _ _ (setNext a sl i ep >>= _) _ _ s
 refine wpAny_bind (hn _ _ _ ?_)
 show wpAny _ _ (setField (.ref I) 2 .none >>= _) _ _ s
 refine wpAny_bind (wpAny_setField ho hd (by simp) ?_)
 show wpAny _ _ (newExc (.type "StopIteration") [] >>= _) _ _ _
 refine wpAny_bind ?_
 simp only[newExc,newTuple]
 refine wpAny_bind (wpAny_newObj_type ?_ (by size_fits))
 refine wpAny_bind (m:=firstArgMember _ _) (wpAny_of_eq (a:=Value.none) (by first | rfl | (simp only[firstArgMember];rfl)) ?_)
 refine wpAny_newObj_type ?_ (by size_fits)
 simp only[raiseNew]
 refine wpAny_bind (wpAny_handled ?_)
 first | rw[show A.in1.handled=none from hh] | rw[hh]
 refine wpAny_bind (wpAny_pure (wpAny_throw ?_))
 refine wpAny_bind (wpAny_isInstance (T:="StopIteration") (b:=true) ⟨_,qo _ rfl,rfl⟩ isSubtype_stop ?_)
 exact wpAny_pure (hQ _ (((Heap.SameBut.update ..).extBut.push _).push _))
theorem Yxp{I a T:Addr}{i j ep:Nat}{pl:Array Value}{tk:Tok}{es:Array (Int × Value)}{t:SetTable}{e:Int × Value}{Q:Option Value→Shared→Prop}(hit:SIt s.heap I (.ref T) i a es.size ep)(ha:SAt s.heap a es ep t)
 (hT:s.heap.IsTuple T pl) (hp:pl[i]?=some (.int j tk)) (he:es[j]?=some e)
 (hQ:∀h',SIt h' I (.ref T) (i+1) a es.size ep→Heap.SameBut I s.heap h'→Q (some e.2) { s with heap:=h' }):wpAny (model prog w) A (pyNext (.ref I)) Q E s:=by
 obtain⟨o,ho,hc,hd⟩:=id hit
 obtain⟨oa,hoa,hexa,hda,hfa⟩:=ha
 obtain⟨ot,hot,_,nt,hdt⟩:=hT
 unfold pyNext
 refine wpAny_bind (wpAny_attempt (wpAny_callSpecial?_slot (name:=Str.ofString "__next__") hit.typeIs slot_si_next (wpAny_call_entry slot_si_next hit.typeIs Ydp ?_ (Yei _))))
 show wpAny _ _ (fieldsOf (.ref I) >>= _) _ _ s
 refine wpAny_bind (wpAny_fieldsOf ho hd ?_)
 show wpAny _ _ (setEntries a >>= _) _ _ s
 refine wpAny_bind (wpAny_setEntries_of hoa hda hfa ?_)
 rw[if_neg (by simp)]
 show wpAny _ _ (seqItems? (.ref T) >>= _) _ _ s
 refine wpAny_bind (wpAny_seqItems hot hdt ?_)
 simp only[Int.toNat_natCast,hp]
 show wpAny _ _ (setNextDrawn a j ep >>= _) _ _ s
 refine wpAny_bind ?_
 unfold setNextDrawn
 refine wpAny_bind (wpAny_setState_of hoa hda hfa ?_)
 dsimp only
 rw[if_neg (by simp)]
 show wpAny _ _ (match es[j]? with | some (_,x)=>pure x | _=>unsupported "internal:set_iterator") _ _ s
 rw[he]
 refine wpAny_pure ?_
 show wpAny _ _ (setField (.ref I) 1 (rawInt (i+1)) >>= _) _ _ _
 refine wpAny_bind (wpAny_setField ho hd (by simp) (wpAny_pure ⟨e.2,rfl,wpAny_pure (hQ _ ?_ (Heap.SameBut.update ..))⟩))
 exact⟨_,Heap.get?_update_self _ ho (Obj.isFreed_of_fields (Obj.data_mapFields hd _)),(Obj.cls_mapFields ..).trans hc,by
  rw[Obj.data_mapFields hd];simp[rawInt]⟩
theorem Yxq{I a T:Addr}{i ep:Nat}{pl:Array Value}{es:Array (Int × Value)}{t:SetTable}{Q:Option Value→Shared→Prop}(hh:A.handled=none)(hit:SIt s.heap I (.ref T) i a es.size ep)(ha:SAt s.heap a es ep t)
 (hT:s.heap.IsTuple T pl) (hp:pl[i]?=none) (hQ:∀h',Heap.ExtBut I s.heap h'→Q none { s with heap:=h' }):wpAny (model prog w) A (pyNext (.ref I)) Q E s:=by
 obtain⟨o,ho,hc,hd⟩:=id hit
 obtain⟨oa,hoa,hexa,hda,hfa⟩:=ha
 obtain⟨ot,hot,_,nt,hdt⟩:=hT
 unfold pyNext
 refine wpAny_bind (wpAny_attempt (wpAny_callSpecial?_slot (name:=Str.ofString "__next__") hit.typeIs slot_si_next (wpAny_call_entry slot_si_next hit.typeIs Ydp ?_ (Yei _))))
 show wpAny _ _ (fieldsOf (.ref I) >>= _) _ _ s
 refine wpAny_bind (wpAny_fieldsOf ho hd ?_)
 show wpAny _ _ (setEntries a >>= _) _ _ s
 refine wpAny_bind (wpAny_setEntries_of hoa hda hfa ?_)
 rw[if_neg (by simp)]
 show wpAny _ _ (seqItems? (.ref T) >>= _) _ _ s
 refine wpAny_bind (wpAny_seqItems hot hdt ?_)
 simp only[Int.toNat_natCast,hp]
 show wpAny _ _ (setField (.ref I) 0 (rawInt 0) >>= _) _ _ s
 refine wpAny_bind (wpAny_setField ho hd (by simp) ?_)
 have ho1:=Heap.get?_update_self (Obj.mapFields (·.setIfInBounds 0 (rawInt 0))) ho (Obj.isFreed_of_fields (Obj.data_mapFields hd _))
 have hd1:=Obj.data_mapFields hd (·.setIfInBounds 0 (rawInt 0))
 show wpAny _ _ (setField (.ref I) 2 .none >>= _) _ _ _
 refine wpAny_bind (wpAny_setField (s:={ s with heap:=s.heap.update I (Obj.mapFields (·.setIfInBounds 0 (rawInt 0))) }) ho1 hd1 (by simp) ?_)
 show wpAny _ _ (newExc (.type "StopIteration") [] >>= _) _ _ _
 refine wpAny_bind ?_
 simp only[newExc,newTuple]
 refine wpAny_bind (wpAny_newObj_type ?_ (by size_fits))
 refine wpAny_bind (m:=firstArgMember _ _) (wpAny_of_eq (a:=Value.none) (by first | rfl | (simp only[firstArgMember];rfl)) ?_)
 refine wpAny_newObj_type ?_ (by size_fits)
 simp only[raiseNew]
 refine wpAny_bind (wpAny_handled ?_)
 first | rw[show A.in1.handled=none from hh] | rw[hh]
 refine wpAny_bind (wpAny_pure (wpAny_throw ?_))
 refine wpAny_bind (wpAny_isInstance (T:="StopIteration") (b:=true) ⟨_,qo _ rfl,rfl⟩ isSubtype_stop ?_)
 exact wpAny_pure (hQ _ ((((Heap.SameBut.update ..).trans (Heap.SameBut.update ..)).extBut.push _).push _))
end
end
section
set_option maxRecDepth 100000
section
variable {prog:Program} {w:World} {A:Around} {E:Value→Shared→Prop} {s:Shared}
theorem Yhy{Q:Bool→Shared→Prop}(h:Q (byT w) s):wpAny (model prog w) A setsByText Q E s:=by
 unfold setsByText
 exact wpAny_bind (wpAny_askSetting (wpAny_pure h))
theorem Yo1{a:Addr}{es:Array (Int × Value)}{ep sl i:Nat}{t:SetTable}(hb:byT w=true)(ha:SAt s.heap a es ep t){Q:Option (Value × Nat)→Shared→Prop}
 (h:Q (((pickOrder (w.params.setOrder a ep) es)[i]?).map fun e=>(e.2,sl)) s):wpAny (model prog w) A (setNext a sl i ep) Q E s:=by
 obtain⟨oa,hoa,hexa,hda,hfa⟩:=ha
 unfold setNext
 refine wpAny_bind (wpAny_setState_of hoa hda hfa ?_)
 dsimp only
 refine wpAny_bind (Yhy ?_)
 rw[if_pos hb,if_neg (by simp)]
 refine wpAny_bind (m:=setWalk a) ?_
 unfold setWalk
 refine wpAny_bind (wpAny_setState_of hoa hda hfa ?_)
 dsimp only
 refine wpAny_bind (Yhy ?_)
 rw[if_pos hb]
 refine wpAny_bind (wpAny_askSetting (wpAny_pure ?_))
 exact wpAny_pure h
theorem Yo2{a:Addr}{es:Array (Int × Value)}{ep sl i g:Nat}{t:SetTable}(hb:byT w=false)(hd:(!t.plain&&decide (es.size > 1))=false)(hl:t.led=true)(ha:SAt s.heap a es ep t){Q:Option (Value × Nat)→Shared→Prop}
 (hp:SetTable.below t.place sl=i) (h:Q (match es[i]?,t.place[i]? with | some (_,x),some j=>some (x,j+1) | _,_=>none) s):wpAny (model prog w) A (setNext a sl g ep) Q E s:=by
 obtain⟨oa,hoa,hexa,hda,hfa⟩:=ha
 unfold setNext
 refine wpAny_bind (wpAny_setState_of hoa hda hfa ?_)
 dsimp only
 refine wpAny_bind (Yhy ?_)
 rw[if_neg (by rw[hb];exact qh)]
 show wpAny _ _ (if (!t.plain&&decide (es.size > 1))=true then _ else _) _ _ _
 rw[if_neg (show ¬((!t.plain&&decide (es.size > 1))=true) by rw[hd];exact qh)]
 show wpAny _ _ ((if (!t.led&&!es.isEmpty)=true then unsupported "set:maker-not-led" else pure ()) >>= _) _ _ _
 rw[if_neg (by rw[hl];simp)]
 refine wpAny_bind (wpAny_pure ?_)
 rw[hp]
 exact wpAny_pure h
noncomputable def Ygy(pl:Array Nat):Nat→Nat
 | 0=>0
 | i+1=>pl.getD i 0+1
theorem Ysg{pl:Array Nat}(hr:Rise pl){i:Nat}(hi:i≤pl.size):SetTable.below pl (Ygy pl i)=i:=by
 obtain⟨h1,h2,h3⟩:=Ymg hr (Ygy pl i)
 generalize hp:SetTable.below pl (Ygy pl i)=p at h1 h2 h3
 have mono:∀(i k:Nat) (hi:i < pl.size) (hk:k < pl.size),i < k→pl[i] < pl[k]:=fun i k hi hk h=>by
  have:=List.pairwise_iff_getElem.mp hr i k (by simpa using hi) (by simpa using hk) h
  simpa using this
 have e1:∀k (hk:k < pl.size),k < p→pl[k] < Ygy pl i:=fun k hk hkp=>h2 _ (by
  rw[List.mem_iff_getElem]
  exact⟨k,by simp;lia,by simp⟩)
 have e2:∀k (hk:k < pl.size),p≤k→Ygy pl i≤pl[k]:=fun k hk hkp=>h3 _ (by
  rw[List.mem_iff_getElem]
  exact⟨k - p,by simp;lia,by
   rw[List.getElem_drop,Array.getElem_toList]
   congr 1
   lia⟩)
 rcases Nat.lt_trichotomy p i with h | h | h
 ·have hk:p < pl.size:=by lia
  have:=e2 p hk (qt _)
  cases i with
  | zero=>lia
  | succ j=>
    have hj:j < pl.size:=by lia
    simp only[Ygy,Array.getD,hj,dite_true]at this
    by_cases e:p=j
    ·subst e;exact absurd this (by simp)
    ·have:=mono p j hk hj (by lia)
     simp at *
     lia
 ·exact h
 ·have hk:i < pl.size:=by lia
  have:=e1 i hk h
  cases i with
  | zero=>simp[Ygy]at this
  | succ j=>
    have hj:j < pl.size:=by lia
    have h':=mono j (j+1) hj hk (by lia)
    simp only[Ygy,Array.getD,hj,dite_true]at this
    simp at *
    lia
def PInt(vals:List Int)(i:Nat)(v:Value):Prop:=∃k t,vals[i]?=some k∧v=.int k t
theorem Yj4{es:Array (Int × Value)}(hel:ElemsOf (intKind prog w) es.toList){e:Int × Value}(he:e∈es.toList):∃t,e.2=.int (kOf e) t:=by
 obtain⟨t,ht⟩:=Ysc hel he
 exact⟨t,by rw[ht];simp[kOf]⟩
theorem Yxr{a:Addr}{ns:List Int}(hS:SetI prog w s.heap a ns){Q:Value→Shared→Prop}
 (hQ:∀(h':Heap) (d':Drawn) (I:Addr) (fp:List Addr) (vals:List Int) (St:Nat→Heap→Prop),(∀b o,s.heap.get? b=some o→h'.get? b=some o)→s.heap.objs.size≤I→I∈fp→
  (∀b∈fp,b < h'.objs.size∧(b=a∨s.heap.objs.size≤b))→vals.Perm ns→(∀A':Around,A'.handled=none→Walks prog w A' I fp [I] ns.length (PInt vals) St)→St 0 h'→
  (∀(i:Nat) (s':Shared),St i s'.heap→s'.TypeIs (.ref I) "set_iterator")→Q (.ref I) { s with heap:=h',drawn:=d' }) :
 wpAny (model prog w) A (pyIter (.ref a)) Q E s:=by
 obtain⟨o,es,ep,t,ho,hex,hd,hel,hns,hnd,hb,hf,ht⟩:=hS
 have hT:s.TypeIs (.ref a) "set":=⟨o,ho,hex.1⟩
 have hlen:ns.length=es.size:=by rw[←hns,qe,qi]
 have hlt:a < s.heap.objs.size:=qk ho
 have hsa:SAt s.heap a es ep t:=⟨o,ho,hex,hd,hf⟩
 have hps:t.place.size=es.size:=by
  simp only[SetTable.fits,Qd,beq_iff_eq]at hf
  exact hf.1
 refine wpAny_pyIter_slot hT F.slot_set_iter (wpAny_call_entry F.slot_set_iter hT Ylo ?_ (F.args_set_iter_1 _))
 unfold Builtin.«frozenset.__iter__»
 show wpAny _ _ (Builtin.Frozenset.sizeOf a >>= _) _ _ s
 unfold Builtin.Frozenset.sizeOf
 refine wpAny_bind (wpAny_bind (wpAny_setEntries_of ho hd hf (wpAny_pure ?_)))
 refine wpAny_bind ?_
 unfold setDrawn
 refine wpAny_bind (wpAny_setState_of ho hd hf ?_)
 dsimp only
 refine wpAny_bind (Yhy (wpAny_pure ?_))
 have plain:∀(vals:List Int) (st:Nat→Nat) (xv:Nat→Value),vals.Perm ns→st 0=0→(∀i,i < es.size→PInt vals i (xv i))→
  (∀(s':Shared) (A':Around) (i:Nat) (E':Value→Shared→Prop),SAt s'.heap a es ep t→i < es.size→∀Q':Option (Value × Nat)→Shared→Prop,Q' (some (xv i,st (i+1))) s'→wpAny (model prog w) A' (setNext a (st i) i ep) Q' E' s')→
  (∀(s':Shared) (A':Around) (E':Value→Shared→Prop),SAt s'.heap a es ep t→∀Q':Option (Value × Nat)→Shared→Prop,Q' none s'→wpAny (model prog w) A' (setNext a (st es.size) es.size ep) Q' E' s')→
  wpAny (model prog w) A.in1 (do
   let x ←newFields "set_iterator" [rawInt 0,rawInt 0,.ref a,rawInt es.size,rawInt (←setEpoch a)]
   ret x) (fun fin s'=>∃v,fin=.done (.ret v)∧∃T' r,s'.TypeIs v T'∧typeLookup (.type T') "__next__"=pure (some r)∧Q v s') E s:=by
  intro vals st xv hp h0 hx hi hn
  refine wpAny_bind (wpAny_setEpoch_of ho hd hf ?_)
  refine wpAny_bind (wpAny_newObj_type ?_)
  refine wpAny_pure ⟨_,rfl,"set_iterator",_,⟨_,qo _ rfl,rfl⟩,slot_si_next.lookup,?_⟩
  have key:=hQ (s.heap.push { cls:=.type "set_iterator",data:=.fields #[rawInt 0,rawInt 0,.ref a,rawInt es.size,rawInt ep] }) s.drawn s.heap.objs.size [s.heap.objs.size,a] vals
   (fun i h=>SIt h s.heap.objs.size (.int (st i) 0) i a es.size ep∧SAt h a es ep t) (fun b o e=>qd _ e) (qt _) (by simp) (fun b hb=>by
    rw[Heap.size_push]
    rcases qr hb with rfl | hb
    ·exact⟨qz _,.inr (qt _)⟩
    ·rw[Qk]at hb
     subst hb
     exact⟨qv hlt,.inl rfl⟩) hp (fun A' hA'=>{
    sub:=fun b hb=>by simp at hb;simp[hb]
    frame:=fun i h h' st' hk=>⟨st'.1.at fun o e=>hk _ (by simp) o e,st'.2.at fun o e=>hk a (by simp) o e⟩
    item:=fun i s' Q' E' hlt' st' hQ'=>by
     refine y0l st'.1 st'.2 (x:=xv i) (nx:=st (i+1)) (fun A2 Q2 E2 hq=>hi s' A2 i E2 st'.2 (by lia) Q2 hq) fun h' hit' hs'=>?_
     exact hQ' _ h' s'.toks (hx i (by lia)) ⟨hit',st'.2.at fun o e=>hs'.extBut a o (fun z=>by subst z;exact absurd hlt (Qi _)) e⟩ fun b o hb e=>hs'.extBut b o (fun z=>hb (by simp[z])) e
    done:=fun s' Q' E' st' hQ'=>by
     rw[hlen]at st'
     exact y0m hA' st'.1 st'.2 (fun A2 Q2 E2 hq=>hn s' A2 E2 st'.2 Q2 hq) fun h' he'=>hQ' h' s'.toks fun b o hb e=>he' b o (fun z=>hb (by simp[z])) e
    self:=fun i s' Q' E' st' hQ'=>Yu7 st'.1 hQ' }) ⟨⟨_,qo _ rfl,rfl,by rw[h0];rfl⟩,hsa.at fun o e=>qd _ e⟩ (fun i s' st'=>st'.1.typeIs)
  exact key
 have hdr:∀b:Bool,(!t.plain&&decide (es.size > 1))=b→wpAny (model prog w) A.in1 (if (!byT w&&b)=true then do
  let first ←newTuple ((←drawOrder es.size (List.range es.size)).map fun(i:Nat)=>rawInt i)
  let x ←newFields "set_iterator" [first,rawInt 0,.ref a,rawInt es.size,rawInt (←setEpoch a)]
  ret x
  else do
   let x ←newFields "set_iterator" [rawInt 0,rawInt 0,.ref a,rawInt es.size,rawInt (←setEpoch a)]
   ret x) (fun fin s'=>∃v,fin=.done (.ret v)∧∃T' r,s'.TypeIs v T'∧typeLookup (.type T') "__next__"=pure (some r)∧Q v s') E s:=by
  intro b hbd
  cases hbt:byT w with
  | true=>
    rw[if_neg (by simp)]
    generalize hor:pickOrder (w.params.setOrder a ep) es=ord
    have hpm:ord.toList.Perm es.toList:=by rw[←hor];exact Yu6 _ _
    have hos:ord.size=es.size:=by
     have:=hpm.length_eq
     simpa using this
    refine plain (ord.toList.map kOf) (fun _=>0) (fun i=>(ord.getD i (0,.none)).2) (by rw[←hns];exact hpm.map kOf) rfl (fun i hi=>?_) (fun s' A' i E' ha hi Q' hq=>?_) (fun s' A' E' ha Q' hq=>?_)
    ·have hi':i < ord.size:=by lia
     obtain⟨u,hu⟩:=Yj4 hel (hpm.mem_iff.mp (show ord[i]∈ord.toList by simp))
     refine⟨kOf ord[i],u,by simp[hi'],?_⟩
     simp only[Array.getD,hi',dite_true]
     exact hu
    ·have hi':i < ord.size:=by lia
     refine Yo1 hbt ha ?_
     rw[hor,Array.getElem?_eq_getElem hi']
     simp only[Array.getD,hi',dite_true]at hq
     exact hq
    ·refine Yo1 hbt ha ?_
     rw[hor,Array.getElem?_eq_none (by lia)]
     exact hq
  | false=>
    have hled:=ht.1 hbt
    cases b with
    | false=>
      rw[if_neg (by simp)]
      have hrise:Rise t.place:=by
       cases hpl:t.plain with
       | true=>exact ht.2 hpl
       | false=>
         rw[hpl]at hbd
         have h1:t.place.toList.length≤1:=by
          simp at hbd
          rw[qi]
          lia
         unfold Rise
         match t.place.toList,h1 with
         | [],_=>exact .nil
         | [x],_=>simp
      refine plain ns (Ygy t.place) (fun i=>(es.getD i (0,.none)).2) .rfl rfl (fun i hi=>?_) (fun s' A' i E' ha hi Q' hq=>?_) (fun s' A' E' ha Q' hq=>?_)
      ·obtain⟨u,hu⟩:=Yj4 hel (show es[i]∈es.toList by simp)
       refine⟨kOf es[i],u,by rw[←hns];simp[hi],?_⟩
       simp only[Array.getD,hi,dite_true]
       exact hu
      ·refine Yo2 hbt hbd hled ha (Ysg hrise (by lia)) ?_
       have hi2:i < t.place.size:=by lia
       rw[Array.getElem?_eq_getElem hi,Array.getElem?_eq_getElem hi2]
       simp only[Array.getD,hi,hi2,dite_true,Ygy]at hq
       exact hq
      ·refine Yo2 hbt hbd hled ha (Ysg hrise (by lia)) ?_
       rw[Array.getElem?_eq_none (qt _)]
       exact hq
    | true=>
      rw[if_pos (by simp)]
      refine wpAny_bind (Ymi es.size (List.range es.size) s _ (by simp) fun ys d' hp=>?_)
      simp only[newTuple]
      have hyl:ys.length=es.size:=by rw[hp.length_eq];simp
      refine wpAny_bind (wpAny_newObj_type ?_ (by show(ys.map fun(i:Nat)=>rawInt i).toArray.size≤sizeLine;rw[qj,qe,hyl];exact fits_of_scanBound hb))
      have ho1:((s.heap.push { cls:=.type "tuple",data:=.seq (ys.map fun(i:Nat)=>rawInt i).toArray })).get? a=some o:=qd _ ho
      refine wpAny_bind (wpAny_setEpoch_of (s:={ s with heap:=s.heap.push { cls:=.type "tuple",data:=.seq (ys.map fun(i:Nat)=>rawInt i).toArray },drawn:=d' }) ho1 hd hf ?_)
      refine wpAny_bind (wpAny_newObj_type ?_)
      refine wpAny_pure ⟨_,rfl,"set_iterator",_,⟨_,qo _ rfl,rfl⟩,slot_si_next.lookup,?_⟩
      have hmem:∀j∈ys,j < es.size:=fun j hj=>by simpa using hp.mem_iff.mp hj
      have hvp:(ys.map fun j=>kOf (es.getD j (0,.none))).Perm ns:=by
       rw[←hns]
       refine(hp.map _).trans ?_
       have:(List.range es.size).map (fun j=>kOf (es.getD j (0,.none)))=es.toList.map kOf:=by
        refine List.ext_getElem (by simp) fun i h1 h2=>?_
        have hi:i < es.size:=by simpa using h1
        simp[Array.getD,hi]
       rw[this]
      generalize hH:s.heap.push { cls:=.type "tuple",data:=.seq (ys.map fun(i:Nat)=>rawInt i).toArray }=H at ho1 ⊢
      have hHs:H.objs.size=s.heap.objs.size+1:=by rw[←hH,Heap.size_push]
      have hT0:H.IsTuple s.heap.objs.size (ys.map fun(i:Nat)=>rawInt i).toArray:=⟨_,by rw[←hH];exact qo _ rfl,rfl,_,rfl⟩
      have keepH:∀b o,s.heap.get? b=some o→H.get? b=some o:=fun b o e=>by rw[←hH];exact qd _ e
      have haI:a≠H.objs.size:=fun z=>by rw[z,hHs]at hlt;exact absurd hlt (Nat.not_lt.mpr (Nat.le_succ _))
      have hTI:s.heap.objs.size≠H.objs.size:=by rw[hHs];exact ql (qz _)
      exact hQ (H.push { cls:=.type "set_iterator",data:=.fields #[.ref s.heap.objs.size,rawInt 0,.ref a,rawInt es.size,rawInt ep] }) d' H.objs.size [H.objs.size,a,s.heap.objs.size] (ys.map fun j=>kOf (es.getD j (0,.none)))
       (fun i h=>SIt h H.objs.size (.ref s.heap.objs.size) i a es.size ep∧SAt h a es ep t∧h.IsTuple s.heap.objs.size (ys.map fun(i:Nat)=>rawInt i).toArray) (fun b o e=>qd _ (keepH b o e)) (by lia) (by simp) (fun b hb=>by
        rw[Heap.size_push]
        simp only[List.mem_cons,List.not_mem_nil,or_false]at hb
        rcases hb with rfl | rfl | rfl
        ·exact⟨qz _,.inr (by rw[hHs];exact Nat.le_succ _)⟩
        ·exact⟨qv (by rw[hHs];exact qv hlt),.inl rfl⟩
        ·exact⟨qv (by rw[hHs];exact qz _),.inr (qt _)⟩) hvp (fun A' hA'=>{
        sub:=fun b hb=>by simp at hb;simp[hb]
        frame:=fun i h h' st' hk=>⟨st'.1.at fun o e=>hk _ (by simp) o e,st'.2.1.at fun o e=>hk a (by simp) o e,st'.2.2.at fun o e=>hk _ (by simp) o e⟩
        item:=fun i s' Q' E' hlt' st' hQ'=>by
         have hi:i < ys.length:=by lia
         have hj:=hmem ys[i] (qx hi)
         refine Yxp st'.1 st'.2.1 st'.2.2 (j:=ys[i]) (tk:=0) (e:=es[ys[i]]) (by simp[hi,rawInt]) (Array.getElem?_eq_getElem hj) fun h' hit' hs'=>?_
         refine hQ' _ h' s'.toks ?_ ⟨hit',st'.2.1.at fun o e=>hs'.extBut a o haI e,st'.2.2.at fun o e=>hs'.extBut _ o hTI e⟩ fun b o hb e=>hs'.extBut b o (fun z=>hb (by simp[z])) e
         obtain⟨u,hu⟩:=Yj4 hel (show es[ys[i]]∈es.toList by simp)
         exact⟨kOf es[ys[i]],u,by simp[hi,Array.getD,hj],hu⟩
        done:=fun s' Q' E' st' hQ'=>by
         rw[hlen]at st'
         exact Yxq hA' st'.1 st'.2.1 st'.2.2 (by simp[hyl]) fun h' he'=>hQ' h' s'.toks fun b o hb e=>he' b o (fun z=>hb (by simp[z])) e
        self:=fun i s' Q' E' st' hQ'=>Yu7 st'.1 hQ' }) ⟨⟨_,qo _ rfl,rfl,rfl⟩,⟨o,qd _ ho1,hex,hd,hf⟩,hT0.push _⟩ (fun i s' st'=>st'.1.typeIs)
 exact hdr _ rfl
end
end
section
inductive D where
 | non | bl (b:Bool) | int (i:Int) | str (x:Str) | tup (l:List D) | lst (l:List D)
 | scr (ns:List Int)
 | dct (t:Bool) (ks vs:List D)
mutual
noncomputable def toPy:D→PyData
 | .non=>.none
 | .bl b=>.bool b
 | .int i=>.int i
 | .str x=>.str x
 | .tup l=>.tuple (Ydq l)
 | .lst l=>.list (Ydq l)
 | .scr ns=>.list (ns.map PyData.int)
 | .dct _ _ _=>.none
noncomputable def Ydq:List D→List PyData
 | []=>[]
 | d::l=>toPy d::Ydq l
end
noncomputable def eqD(d e:D):Bool:=PyData.eqv (toPy d) (toPy e)
noncomputable def eqL(l m:List D):Bool:=PyData.eqvAll (Ydq l) (Ydq m)
noncomputable def numV:V→Option Int
 | .int i=>some i
 | .bl b=>some (if b then 1 else 0)
 | _=>none
noncomputable def y0n:List V→Option (List Int)
 | []=>some []
 | x::r=>(numV x).bind fun i=>(y0n r).map (i::·)
noncomputable def y3l(ks:List Int):Int:=reduceHash (Builtin.Tuple.tupleHashOf (ks.map hashInt))
def DtOk(a:Addr)(nks:List (List Int × Addr))(vxs:List V)(h:Heap):Prop:=
 (a==sysModules)=false∧∃us o es ep,Vals vxs us∧h.get? a=some o∧o.ExactDict∧o.data=.dict es ep∧es.toList=(nks.zip us).map fun p=>(⟨y3l p.1.1,.ref p.1.2,p.2⟩:DictEntry)
noncomputable def dTo(a:Addr)(nks:List (List Int × Addr))(vxs:List V):HO:=.ext (DtOk a nks vxs)
def Dc(t:Bool)(G H:Hp)(a:Addr)(kxs vxs:List V):Prop:=
 (t=false∧∃kvs:List (Key × V),H a=some (.dK kvs)∧(kvs.map (·.1)).Nodup∧kxs=kvs.map (fun p=>kV p.1)∧vxs=kvs.map (·.2))∨
 (t=true∧∃nks:List (List Int × Addr),H a=some (dTo a nks vxs)∧nks.length=vxs.length∧(nks.map (·.1)).Nodup∧kxs=nks.map (fun p=>V.ref p.2)∧∀p∈nks,∃ys,G p.2=some (.tup ys)∧y0n ys=some p.1)
mutual
noncomputable def Rp(K:W.Frag)(G:Hp):D→V→Prop
 | .non,v=>v=V.non
 | .bl b,v=>v=V.bl b
 | .int i,v=>v=V.int i
 | .str x,v=>v=V.str x∧PyData.strOk x=true
 | .tup l,v=>∃a xs,v=V.ref a∧G a=some (HO.tup xs)∧RpL K G l xs
 | .lst l,v=>∃a xs,v=V.ref a∧Rd G a (HO.lst xs)∧RpL K G l xs
 | .scr ns,v=>∃a,v=V.ref a∧SqL K G a (ns.map V.int)
 | .dct t ks vs,v=>∃a kxs vxs,v=V.ref a∧Dc t G G a kxs vxs∧RpL K G ks kxs∧RpL K G vs vxs
noncomputable def RpL(K:W.Frag)(G:Hp):List D→List V→Prop
 | [],xs=>xs=[]
 | d::l,xs=>∃x r,xs=x::r∧Rp K G d x∧RpL K G l r
end
variable {K:W.Frag}
theorem Ybr{G G':Hp}(h:Same G G'){a:Addr}{u:HO}(r:Rd G a u):Rd G' a u:=by
 rcases r with r | ⟨o,r⟩
 ·exact .inl (h _ _ r)
 ·exact .inr ⟨o,h _ _ r⟩
theorem Dc.mono{t:Bool}{G G' H H':Hp}(g:Same G G'){a:Addr}{kxs vxs:List V}(h:∀o,H a=some o→H' a=some o)(d:Dc t G H a kxs vxs):Dc t G' H' a kxs vxs:=by
 rcases d with⟨e,kvs,h1,h2⟩ | ⟨e,nks,h1,h2,h3,h4,h5⟩
 ·exact .inl ⟨e,kvs,h _ h1,h2⟩
 ·refine .inr ⟨e,nks,h _ h1,h2,h3,h4,fun p hp=>?_⟩
  obtain⟨ys,q1,q2⟩:=h5 p hp
  exact⟨ys,g _ _ q1,q2⟩
theorem Dc.someT{t:Bool}{G H:Hp}{a:Addr}{kxs vxs:List V}(d:Dc t G H a kxs vxs):∃o,H a=some o∧∀xs,o≠.tup xs:=by
 rcases d with⟨_,kvs,h1,_⟩ | ⟨_,nks,h1,_⟩
 ·exact⟨_,h1,fun xs z=>by cases z⟩
 ·exact⟨_,h1,fun xs z=>by cases z⟩
theorem Dc.some{t:Bool}{G H:Hp}{a:Addr}{kxs vxs:List V}(d:Dc t G H a kxs vxs):∃o,H a=some o∧∀xs,o≠.lst xs:=by
 rcases d with⟨_,kvs,h1,_⟩ | ⟨_,nks,h1,_⟩
 ·exact⟨_,h1,fun xs z=>by cases z⟩
 ·exact⟨_,h1,fun xs z=>by cases z⟩
mutual
theorem Rp.mono{G G':Hp}(h:Same G G'):∀{d:D} {v:V},Rp K G d v→Rp K G' d v
 | .non,_,r=>by rw[Rp]at r ⊢;exact r
 | .bl _,_,r=>by rw[Rp]at r ⊢;exact r
 | .int _,_,r=>by rw[Rp]at r ⊢;exact r
 | .str _,_,r=>by rw[Rp]at r ⊢;exact r
 | .tup l,_,r=>by
   rw[Rp]at r ⊢
   obtain⟨a,xs,e,g,q⟩:=r
   exact⟨a,xs,e,h _ _ g,RpL.mono h q⟩
 | .lst l,_,r=>by
   rw[Rp]at r ⊢
   obtain⟨a,xs,e,g,q⟩:=r
   exact⟨a,xs,e,Ybr h g,RpL.mono h q⟩
 | .scr ns,_,r=>by
   rw[Rp]at r ⊢
   obtain⟨a,e,g⟩:=r
   exact⟨a,e,h.seq g⟩
 | .dct t ks vs,_,r=>by
   rw[Rp]at r ⊢
   obtain⟨a,kxs,vxs,e,g,q1,q2⟩:=r
   exact⟨a,kxs,vxs,e,g.mono h fun o=>h _ o,RpL.mono h q1,RpL.mono h q2⟩
theorem RpL.mono{G G':Hp}(h:Same G G'):∀{l:List D} {xs:List V},RpL K G l xs→RpL K G' l xs
 | [],_,r=>by rw[RpL]at r ⊢;exact r
 | d::l,_,r=>by
   rw[RpL]at r ⊢
   obtain⟨x,xs,e,g,q⟩:=r
   exact⟨x,xs,e,Rp.mono h g,RpL.mono h q⟩
end
section
variable {G:Hp}
theorem RpL.length:∀{l:List D} {xs:List V},RpL K G l xs→xs.length=l.length
 | [],_,r=>by rw[RpL]at r;subst r;rfl
 | d::l,_,r=>by
   rw[RpL]at r
   obtain⟨x,xs,rfl,_,q⟩:=r
   simp[RpL.length q]
theorem RpL.get:∀{l:List D} {xs:List V} {i:Nat} {d:D},RpL K G l xs→l[i]?=some d→∃x,xs[i]?=some x∧Rp K G d x
 | [],_,_,_,_,e=>by simp at e
 | d::l,_,0,_,r,e=>by
   rw[RpL]at r
   obtain⟨x,xs,rfl,g,q⟩:=r
   simp at e
   subst e
   exact⟨x,rfl,g⟩
 | d::l,_,i+1,_,r,e=>by
   rw[RpL]at r
   obtain⟨x,xs,rfl,g,q⟩:=r
   obtain⟨y,h1,h2⟩:=RpL.get (i:=i) q (by simpa using e)
   exact⟨y,by simpa using h1,h2⟩
theorem RpL.nil:RpL K G [] []:=by rw[RpL]
theorem RpL.cons{d:D}{l:List D}{x:V}{xs:List V}(h:Rp K G d x)(q:RpL K G l xs):RpL K G (d::l) (x::xs):=by rw[RpL];exact⟨x,xs,rfl,h,q⟩
theorem RpL.append:∀{l m:List D} {xs ys:List V},RpL K G l xs→RpL K G m ys→RpL K G (l++m) (xs++ys)
 | [],_,_,_,r,q=>by rw[RpL]at r;subst r;exact q
 | d::l,m,_,ys,r,q=>by
   rw[RpL]at r
   obtain⟨x,xs,rfl,g,r⟩:=r
   exact .cons g (RpL.append r q)
theorem RpL.one{d:D}{x:V}(h:Rp K G d x):RpL K G [d] [x]:=.cons h .nil
theorem RpL.take:∀{l:List D} {xs:List V} (n:Nat),RpL K G l xs→RpL K G (l.take n) (xs.take n)
 | _,_,0,_=>by rw[List.take_zero,List.take_zero];exact .nil
 | [],_,_+1,r=>by rw[RpL]at r;subst r;exact .nil
 | d::l,_,n+1,r=>by
   rw[RpL]at r
   obtain⟨x,xs,rfl,g,r⟩:=r
   exact .cons g (RpL.take n r)
theorem RpL.drop:∀{l:List D} {xs:List V} (n:Nat),RpL K G l xs→RpL K G (l.drop n) (xs.drop n)
 | _,_,0,r=>r
 | [],_,_+1,r=>by rw[RpL]at r;subst r;exact .nil
 | d::l,_,n+1,r=>by
   rw[RpL]at r
   obtain⟨x,xs,rfl,g,r⟩:=r
   exact RpL.drop n r
theorem RpL.ints:∀(ns:List Int),RpL K G (ns.map D.int) (ns.map V.int)
 | []=>.nil
 | n::ns=>.cons (by rw[Rp]) (RpL.ints ns)
end
structure Gr(H G H' G':Hp):Prop where
 h:Same H H'
 g:Same G G'
 s:Same G' H'
 n:∀a,G a=none→G' a≠none→H a=none
theorem Gr.refl{H G:Hp}(s:Same G H):Gr H G H G:=⟨Same.refl _,Same.refl _,s,fun _ h h'=>absurd h h'⟩
theorem Gr.trans{H G H1 G1 H2 G2:Hp}(a:Gr H G H1 G1)(b:Gr H1 G1 H2 G2):Gr H G H2 G2:=
 ⟨a.h.trans b.h,a.g.trans b.g,b.s,fun x h h'=>by
  by_cases e:G1 x=none
  ·exact a.h.free (b.n x e h')
  ·exact a.n x h e⟩
theorem Gr.new{H G:Hp}(s:Same G H){p:Addr}(hp:H p=none)(o:HO):Gr H G (upd H p o) (upd G p o):=by
 have gp:G p=none:=s.free hp
 refine⟨fun b u e=>?_,fun b u e=>?_,fun b u e=>?_,fun b h h'=>?_⟩
 ·rw[y4 (y3 e hp)];exact e
 ·rw[y4 (y3 e gp)];exact e
 ·by_cases q:b=p
  ·subst q;rw[y0]at e ⊢;exact e
  ·rw[y4 q]at e ⊢;exact s _ _ e
 ·by_cases q:b=p
  ·subst q;exact hp
  ·rw[y4 q]at h';exact absurd h h'
theorem Gr.hid{H G:Hp}(s:Same G H){p:Addr}(hp:H p=none)(o:HO):Gr H G (upd H p o) G:=by
 have gp:G p=none:=s.free hp
 refine⟨fun b u e=>?_,Same.refl _,fun b u e=>?_,fun b h h'=>absurd h h'⟩
 ·rw[y4 (y3 e hp)];exact e
 ·rw[y4 (y3 e gp)];exact s _ _ e
theorem Gr.show{H G H' G':Hp}(g:Gr H G H' G'){p:Addr}{o:HO}(hp:H p=none)(gp:G' p=none)(e:H' p=some o):Gr H G H' (upd G' p o):=by
 refine⟨g.h,fun b u q=>?_,fun b u q=>?_,fun b h h'=>?_⟩
 ·have:=g.g b u q
  rw[y4 (y3 this gp)];exact this
 ·by_cases z:b=p
  ·subst z;rw[y0]at q;rw[e];exact q
  ·rw[y4 z]at q;exact g.s b u q
 ·by_cases z:b=p
  ·subst z;exact hp
  ·rw[y4 z]at h';exact g.n b h h'
noncomputable def Ct(K:W.Frag)(G H:Hp):D→V→Prop
 | .non,v=>v=V.non
 | .bl b,v=>v=V.bl b
 | .int i,v=>v=V.int i
 | .str x,v=>v=V.str x∧PyData.strOk x=true
 | .tup l,v=>∃a xs,v=V.ref a∧(H a=some (HO.tup xs)∧G a=some (HO.tup xs))∧RpL K G l xs
 | .lst l,v=>∃a xs,v=V.ref a∧Rd H a (HO.lst xs)∧RpL K G l xs
 | .scr ns,v=>∃a,v=V.ref a∧SqL K H a (ns.map V.int)
 | .dct t ks vs,v=>∃a kxs vxs,v=V.ref a∧Dc t G H a kxs vxs∧RpL K G ks kxs∧RpL K G vs vxs
theorem Ct.of{G H:Hp}(s:Same G H){d:D}{v:V}(r:Rp K G d v):Ct K G H d v:=by
 cases d<;>rw[Rp]at r<;>rw[Ct]
 ·exact r
 ·exact r
 ·exact r
 ·exact r
 ·obtain⟨a,xs,e,g,q⟩:=r
  exact⟨a,xs,e,⟨s _ _ g,g⟩,q⟩
 ·obtain⟨a,xs,e,g,q⟩:=r
  exact⟨a,xs,e,Ybr s g,q⟩
 ·obtain⟨a,e,g⟩:=r
  exact⟨a,e,s.seq g⟩
 ·obtain⟨a,kxs,vxs,e,g,q1,q2⟩:=r
  exact⟨a,kxs,vxs,e,g.mono (Same.refl _) fun o=>s _ o,q1,q2⟩
theorem Ct.rp{G H:Hp}(s:Same G H){d:D}{v:V}(r:Ct K G H d v):Rp K H d v:=by
 cases d<;>rw[Ct]at r<;>rw[Rp]
 ·exact r
 ·exact r
 ·exact r
 ·exact r
 ·obtain⟨a,xs,e,g,q⟩:=r
  exact⟨a,xs,e,g.1,q.mono s⟩
 ·obtain⟨a,xs,e,g,q⟩:=r
  exact⟨a,xs,e,g,q.mono s⟩
 ·exact r
 ·obtain⟨a,kxs,vxs,e,g,q1,q2⟩:=r
  exact⟨a,kxs,vxs,e,g.mono s fun _ z=>z,q1.mono s,q2.mono s⟩
theorem Ct.grow{G H G' H':Hp}(g:Gr H G H' G'){d:D}{v:V}(r:Ct K G H d v):Ct K G' H' d v:=by
 cases d<;>rw[Ct]at r<;>rw[Ct]
 ·exact r
 ·exact r
 ·exact r
 ·exact r
 ·obtain⟨a,xs,e,h,q⟩:=r
  exact⟨a,xs,e,⟨g.h _ _ h.1,g.g _ _ h.2⟩,q.mono g.g⟩
 ·obtain⟨a,xs,e,h,q⟩:=r
  exact⟨a,xs,e,Ybr g.h h,q.mono g.g⟩
 ·obtain⟨a,e,h⟩:=r
  exact⟨a,e,g.h.seq h⟩
 ·obtain⟨a,kxs,vxs,e,h,q1,q2⟩:=r
  exact⟨a,kxs,vxs,e,h.mono g.g fun o=>g.h _ o,q1.mono g.g,q2.mono g.g⟩
noncomputable def CtL(K:W.Frag)(G H:Hp):List D→List V→Prop
 | [],xs=>xs=[]
 | d::l,xs=>∃x r,xs=x::r∧Ct K G H d x∧CtL K G H l r
inductive B where
 | sh (d:D) | ow (l:List D) | od (t:Bool) (ks vs:List D)
noncomputable abbrev Ro:=List (Option B)
structure SR(K:W.Frag)(H0 G0:Hp)(σ:L2.St)(H G:Hp)(ρ:Ro):Prop where
 gr:Gr H0 G0 H G
 len:σ.length=ρ.length
 sh:∀(i:Nat) d,ρ[i]?=some (some (B.sh d))→∃v,σ[i]?=some (some v)∧Rp K G d v
 ow:∀(i:Nat) l,ρ[i]?=some (some (B.ow l))→∃a xs,σ[i]?=some (some (V.ref a))∧G a=none∧H0 a=none∧H a=some (.lst xs)∧RpL K G l xs
 ap:∀(i j:Nat) l l' a b,ρ[i]?=some (some (B.ow l))→ρ[j]?=some (some (B.ow l'))→i≠j→σ[i]?=some (some (V.ref a))→σ[j]?=some (some (V.ref b))→a≠b
 od:∀(i:Nat) t ks vs,ρ[i]?=some (some (B.od t ks vs))→∃a kxs vxs,σ[i]?=some (some (V.ref a))∧G a=none∧H0 a=none∧Dc t G H a kxs vxs∧RpL K G ks kxs∧RpL K G vs vxs
 apd:∀(i j:Nat) t ks vs t' ks' vs' a b,ρ[i]?=some (some (B.od t ks vs))→ρ[j]?=some (some (B.od t' ks' vs'))→i≠j→σ[i]?=some (some (V.ref a))→σ[j]?=some (some (V.ref b))→a≠b
section
variable {H0 G0 H G H' G':Hp} {σ:L2.St} {ρ:Ro}
theorem SR.mkSh(g:Gr H0 G0 H G)(len:σ.length=ρ.length)(sh:∀(i:Nat) d,ρ[i]?=some (some (B.sh d))→∃v,σ[i]?=some (some v)∧Rp K G d v)(no:∀(i:Nat) l,ρ[i]?≠some (some (B.ow l)))(no':∀(i:Nat) t ks vs,ρ[i]?≠some (some (B.od t ks vs))):SR K H0 G0 σ H G ρ:=
 ⟨g,len,sh,fun i l h=>absurd h (no i l),fun i j l l' a b h=>absurd h (no i l),fun i t ks vs h=>absurd h (no' i t ks vs),fun i j t ks vs t' ks' vs' a b h=>absurd h (no' i t ks vs)⟩
theorem Yo3(g:Gr H G H' G'){a:Addr}{o:HO}(h:H a=some o)(n:G a=none):G' a=none:=by
 cases q:G' a with
 | none=>rfl
 | some o=>
   have:=g.n a n (by rw[q];exact fun z=>nomatch z)
   rw[h]at this
   cases this
theorem SR.grow(s:SR K H0 G0 σ H G ρ)(g:Gr H G H' G'):SR K H0 G0 σ H' G' ρ:=by
 refine⟨s.gr.trans g,s.len,fun i d e=>?_,fun i l e=>?_,s.ap,fun i t ks vs e=>?_,s.apd⟩
 ·obtain⟨v,h1,h2⟩:=s.sh i d e
  exact⟨v,h1,h2.mono g.g⟩
 ·obtain⟨a,xs,h1,h2,h3,h4,h5⟩:=s.ow i l e
  exact⟨a,xs,h1,Yo3 g h4 h2,h3,g.h _ _ h4,h5.mono g.g⟩
 ·obtain⟨a,kxs,vxs,h1,h2,h3,h4,h5,h6⟩:=s.od i t ks vs e
  obtain⟨o,h7,_⟩:=h4.some
  exact⟨a,kxs,vxs,h1,Yo3 g h7 h2,h3,h4.mono g.g fun o=>g.h _ o,h5.mono g.g,h6.mono g.g⟩
theorem SR.seen(s:SR K H0 G0 σ H G ρ):Same G H:=s.gr.s
theorem Yq{α:Type}{l:List α}{i j:Nat}{x y:α}(h:(l.set i x)[j]?=some y):(j=i∧y=x∧i < l.length)∨(j≠i∧l[j]?=some y):=by
 by_cases e:j=i
 ·subst e
  have hl:j < l.length:=by
   have:=(qm h).1
   simpa using this
  rw[Qo hl]at h
  exact .inl ⟨rfl,(Option.some.inj h).symm,hl⟩
 ·rw[Qe (Ne.symm e)]at h
  exact .inr ⟨e,h⟩
theorem SR.set_sh(s:SR K H0 G0 σ H G ρ)(i:Nat){d:D}{v:V}(r:Rp K G d v):SR K H0 G0 (σ.set i (some v)) H G (ρ.set i (some (.sh d))):=by
 refine⟨s.gr,by simp[s.len],fun j e h=>?_,fun j l h=>?_,fun j k l l' a b h1 h2 h3 h4 h5=>?_,fun j t ks vs h=>?_,fun j k t ks vs t' ks' vs' a b h1 h2 h3 h4 h5=>?_⟩
 ·rcases Yq h with⟨rfl,e1,hl⟩ | ⟨hj,h⟩
  ·cases e1
   exact⟨v,by rw[Qo (by rw[s.len];exact hl)],r⟩
  ·obtain⟨w,q1,q2⟩:=s.sh j e h
   exact⟨w,by rw[Qe (Ne.symm hj)];exact q1,q2⟩
 ·rcases Yq h with⟨rfl,e1,hl⟩ | ⟨hj,h⟩
  ·cases e1
  ·obtain⟨a,xs,q1,q2⟩:=s.ow j l h
   exact⟨a,xs,by rw[Qe (Ne.symm hj)];exact q1,q2⟩
 ·rcases Yq h1 with⟨rfl,e1,_⟩ | ⟨hj,h1⟩
  ·cases e1
  ·rcases Yq h2 with⟨rfl,e1,_⟩ | ⟨hk,h2⟩
   ·cases e1
   ·rw[Qe (Ne.symm hj)]at h4
    rw[Qe (Ne.symm hk)]at h5
    exact s.ap j k l l' a b h1 h2 h3 h4 h5
 ·rcases Yq h with⟨rfl,e1,hl⟩ | ⟨hj,h⟩
  ·cases e1
  ·obtain⟨a,kxs,vxs,q1,q2⟩:=s.od j t ks vs h
   exact⟨a,kxs,vxs,by rw[Qe (Ne.symm hj)];exact q1,q2⟩
 ·rcases Yq h1 with⟨rfl,e1,_⟩ | ⟨hj,h1⟩
  ·cases e1
  ·rcases Yq h2 with⟨rfl,e1,_⟩ | ⟨hk,h2⟩
   ·cases e1
   ·rw[Qe (Ne.symm hj)]at h4
    rw[Qe (Ne.symm hk)]at h5
    exact s.apd j k t ks vs t' ks' vs' a b h1 h2 h3 h4 h5
theorem SR.set_ow(s:SR K H0 G0 σ H G ρ)(i:Nat){l:List D}{p:Addr}{xs:List V}(g:Gr H G H' G')(hp:H p=none)(gp:G' p=none)(e:H' p=some (.lst xs))(r:RpL K G' l xs):SR K H0 G0 (σ.set i (some (.ref p))) H' G' (ρ.set i (some (.ow l))):=by
 have s':=s.grow g
 have np:∀(j:Nat) l a,ρ[j]?=some (some (B.ow l))→σ[j]?=some (some (V.ref a))→a≠p:=fun j l a h1 h2 z=>by
  obtain⟨b,ys,q1,_,_,q4,_⟩:=s.ow j l h1
  rw[h2]at q1
  cases q1
  rw[z,hp]at q4
  cases q4
 refine⟨s'.gr,by simp[s.len],fun j e h=>?_,fun j l h=>?_,fun j k l l' a b h1 h2 h3 h4 h5=>?_,fun j t ks vs h=>?_,fun j k t ks vs t' ks' vs' a b h1 h2 h3 h4 h5=>?_⟩
 ·rcases Yq h with⟨rfl,e1,hl⟩ | ⟨hj,h⟩
  ·cases e1
  ·obtain⟨w,q1,q2⟩:=s'.sh j e h
   exact⟨w,by rw[Qe (Ne.symm hj)];exact q1,q2⟩
 ·rcases Yq h with⟨rfl,e1,hl⟩ | ⟨hj,h⟩
  ·cases e1
   exact⟨p,xs,by rw[Qo (by rw[s.len];exact hl)],gp,s.gr.h.free hp,e,r⟩
  ·obtain⟨a,xs,q1,q2⟩:=s'.ow j l h
   exact⟨a,xs,by rw[Qe (Ne.symm hj)];exact q1,q2⟩
 ·rcases Yq h1 with⟨rfl,e1,hl⟩ | ⟨hj,h1n⟩
  ·rcases Yq h2 with⟨rfl,e2,_⟩ | ⟨hk,h2⟩
   ·exact absurd rfl h3
   ·rw[Qo (by rw[s.len];exact hl)]at h4
    cases h4
    rw[Qe (Ne.symm hk)]at h5
    exact Ne.symm (np k l' b h2 h5)
  ·rcases Yq h2 with⟨rfl,e2,hl⟩ | ⟨hk,h2⟩
   ·rw[Qo (by rw[s.len];exact hl)]at h5
    cases h5
    rw[Qe (Ne.symm hj)]at h4
    exact np j l a h1n h4
   ·rw[Qe (Ne.symm hj)]at h4
    rw[Qe (Ne.symm hk)]at h5
    exact s.ap j k l l' a b h1n h2 h3 h4 h5
 ·rcases Yq h with⟨rfl,e1,hl⟩ | ⟨hj,h⟩
  ·cases e1
  ·obtain⟨a,kxs,vxs,q1,q2⟩:=s'.od j t ks vs h
   exact⟨a,kxs,vxs,by rw[Qe (Ne.symm hj)];exact q1,q2⟩
 ·rcases Yq h1 with⟨rfl,e1,_⟩ | ⟨hj,h1⟩
  ·cases e1
  ·rcases Yq h2 with⟨rfl,e1,_⟩ | ⟨hk,h2⟩
   ·cases e1
   ·rw[Qe (Ne.symm hj)]at h4
    rw[Qe (Ne.symm hk)]at h5
    exact s.apd j k t ks vs t' ks' vs' a b h1 h2 h3 h4 h5
theorem SR.set_od(s:SR K H0 G0 σ H G ρ)(i:Nat){t:Bool}{ks vs:List D}{p:Addr}{kxs vxs:List V}(g:Gr H G H' G')(hp:H p=none)(gp:G' p=none)(e:Dc t G' H' p kxs vxs)(r1:RpL K G' ks kxs)(r2:RpL K G' vs vxs):SR K H0 G0 (σ.set i (some (.ref p))) H' G' (ρ.set i (some (.od t ks vs))):=by
 have s':=s.grow g
 have np:∀(j:Nat) t ks vs a,ρ[j]?=some (some (B.od t ks vs))→σ[j]?=some (some (V.ref a))→a≠p:=fun j t ks vs a h1 h2 z=>by
  obtain⟨b,kxs,vxs,q1,_,_,q4,_⟩:=s.od j t ks vs h1
  rw[h2]at q1
  cases q1
  obtain⟨o,q5,_⟩:=q4.some
  rw[z,hp]at q5
  cases q5
 refine⟨s'.gr,by simp[s.len],fun j e h=>?_,fun j l h=>?_,fun j k l l' a b h1 h2 h3 h4 h5=>?_,fun j t ks vs h=>?_,fun j k t ks vs t' ks' vs' a b h1 h2 h3 h4 h5=>?_⟩
 ·rcases Yq h with⟨rfl,e1,hl⟩ | ⟨hj,h⟩
  ·cases e1
  ·obtain⟨w,q1,q2⟩:=s'.sh j e h
   exact⟨w,by rw[Qe (Ne.symm hj)];exact q1,q2⟩
 ·rcases Yq h with⟨rfl,e1,hl⟩ | ⟨hj,h⟩
  ·cases e1
  ·obtain⟨a,xs,q1,q2⟩:=s'.ow j l h
   exact⟨a,xs,by rw[Qe (Ne.symm hj)];exact q1,q2⟩
 ·rcases Yq h1 with⟨rfl,e1,_⟩ | ⟨hj,h1⟩
  ·cases e1
  ·rcases Yq h2 with⟨rfl,e1,_⟩ | ⟨hk,h2⟩
   ·cases e1
   ·rw[Qe (Ne.symm hj)]at h4
    rw[Qe (Ne.symm hk)]at h5
    exact s.ap j k l l' a b h1 h2 h3 h4 h5
 ·rcases Yq h with⟨rfl,e1,hl⟩ | ⟨hj,h⟩
  ·cases e1
   exact⟨p,kxs,vxs,by rw[Qo (by rw[s.len];exact hl)],gp,s.gr.h.free hp,e,r1,r2⟩
  ·obtain⟨a,kxs,vxs,q1,q2⟩:=s'.od j t ks vs h
   exact⟨a,kxs,vxs,by rw[Qe (Ne.symm hj)];exact q1,q2⟩
 ·rcases Yq h1 with⟨rfl,e1,hl⟩ | ⟨hj,h1n⟩
  ·rcases Yq h2 with⟨rfl,e2,_⟩ | ⟨hk,h2⟩
   ·exact absurd rfl h3
   ·rw[Qo (by rw[s.len];exact hl)]at h4
    cases h4
    rw[Qe (Ne.symm hk)]at h5
    exact Ne.symm (np k t' ks' vs' b h2 h5)
  ·rcases Yq h2 with⟨rfl,e2,hl⟩ | ⟨hk,h2⟩
   ·rw[Qo (by rw[s.len];exact hl)]at h5
    cases h5
    rw[Qe (Ne.symm hj)]at h4
    exact np j t ks vs a h1n h4
   ·rw[Qe (Ne.symm hj)]at h4
    rw[Qe (Ne.symm hk)]at h5
    exact s.apd j k t ks vs t' ks' vs' a b h1n h2 h3 h4 h5
theorem SR.mut(s:SR K H0 G0 σ H G ρ){i:Nat}{l l':List D}{a:Addr}{ys:List V}(hi:ρ[i]?=some (some (B.ow l)))(ha:σ[i]?=some (some (V.ref a)))(r:RpL K G l' ys):SR K H0 G0 σ (upd H a (.lst ys)) G (ρ.set i (some (.ow l'))):=by
 obtain⟨a',xs,q1,q2,q3,q4,q5⟩:=s.ow i l hi
 rw[ha]at q1
 cases q1
 have hl:i < ρ.length:=(qm hi).1
 refine⟨⟨fun b o e=>?_,s.gr.g,fun b o e=>?_,s.gr.n⟩,by simp[s.len],fun j e h=>?_,fun j m h=>?_,fun j k m m' b c h1 h2 h3 h4 h5=>?_,fun j t ks vs h=>?_,fun j k t ks vs t' ks' vs' b c h1 h2 h3 h4 h5=>?_⟩
 ·rw[y4 (y3 e q3)];exact s.gr.h b o e
 ·rw[y4 (y3 e q2)];exact s.gr.s b o e
 ·rcases Yq h with⟨rfl,e1,_⟩ | ⟨hj,h⟩
  ·cases e1
  ·exact s.sh j e h
 ·rcases Yq h with⟨rfl,e1,_⟩ | ⟨hj,h⟩
  ·cases e1
   exact⟨a,ys,ha,q2,q3,y0,r⟩
  ·obtain⟨b,zs,p1,p2,p3,p4,p5⟩:=s.ow j m h
   exact⟨b,zs,p1,p2,p3,by rw[y4 (s.ap j i m l b a h hi hj p1 ha)];exact p4,p5⟩
 ·have old:∀(j:Nat) m,(ρ.set i (some (.ow l')))[j]?=some (some (B.ow m))→∃m',ρ[j]?=some (some (B.ow m')):=fun j m h=>by
   rcases Yq h with⟨rfl,_,_⟩ | ⟨_,h⟩
   ·exact⟨l,hi⟩
   ·exact⟨m,h⟩
  obtain⟨n1,e1⟩:=old j m h1
  obtain⟨n2,e2⟩:=old k m' h2
  exact s.ap j k n1 n2 b c e1 e2 h3 h4 h5
 ·rcases Yq h with⟨rfl,e1,_⟩ | ⟨hj,h⟩
  ·cases e1
  ·obtain⟨b,kxs,vxs,p1,p2,p3,p4,p5⟩:=s.od j t ks vs h
   refine⟨b,kxs,vxs,p1,p2,p3,p4.mono (Same.refl _) fun o q=>?_,p5⟩
   obtain⟨o',q',nl⟩:=p4.some
   rw[q]at q'
   cases q'
   rw[y4 (fun z=>by rw[z,q4]at q;cases q;exact nl _ rfl)];exact q
 ·rcases Yq h1 with⟨rfl,e1,_⟩ | ⟨hj,h1⟩
  ·cases e1
  ·rcases Yq h2 with⟨rfl,e1,_⟩ | ⟨hk,h2⟩
   ·cases e1
   ·exact s.apd j k t ks vs t' ks' vs' b c h1 h2 h3 h4 h5
theorem SR.mutd(s:SR K H0 G0 σ H G ρ){i:Nat}{t t':Bool}{ks vs ks' vs':List D}{a:Addr}{o:HO}{kxs vxs:List V}(hi:ρ[i]?=some (some (B.od t ks vs)))(ha:σ[i]?=some (some (V.ref a)))(d:Dc t' G (upd H a o) a kxs vxs)(r1:RpL K G ks' kxs)(r2:RpL K G vs' vxs):SR K H0 G0 σ (upd H a o) G (ρ.set i (some (.od t' ks' vs'))):=by
 obtain⟨a',kxs0,vxs0,q1,q2,q3,q4,q5,q6⟩:=s.od i t ks vs hi
 rw[ha]at q1
 cases q1
 obtain⟨o0,q7,nl⟩:=q4.some
 have hl:i < ρ.length:=(qm hi).1
 refine⟨⟨fun b o e=>?_,s.gr.g,fun b o e=>?_,s.gr.n⟩,by simp[s.len],fun j e h=>?_,fun j m h=>?_,fun j k m m' b c h1 h2 h3 h4 h5=>?_,fun j ta ka va h=>?_,fun j k ta ka va tb kb vb b c h1 h2 h3 h4 h5=>?_⟩
 ·rw[y4 (y3 e q3)];exact s.gr.h b o e
 ·rw[y4 (y3 e q2)];exact s.gr.s b o e
 ·rcases Yq h with⟨rfl,e1,_⟩ | ⟨hj,h⟩
  ·cases e1
  ·exact s.sh j e h
 ·rcases Yq h with⟨rfl,e1,_⟩ | ⟨hj,h⟩
  ·cases e1
  ·obtain⟨b,zs,p1,p2,p3,p4,p5⟩:=s.ow j m h
   exact⟨b,zs,p1,p2,p3,by rw[y4 (fun z=>by rw[z,q7]at p4;cases p4;exact nl _ rfl)];exact p4,p5⟩
 ·rcases Yq h1 with⟨rfl,e1,_⟩ | ⟨hj,h1⟩
  ·cases e1
  ·rcases Yq h2 with⟨rfl,e1,_⟩ | ⟨hk,h2⟩
   ·cases e1
   ·exact s.ap j k m m' b c h1 h2 h3 h4 h5
 ·rcases Yq h with⟨rfl,e1,_⟩ | ⟨hj,h⟩
  ·cases e1
   exact⟨a,kxs,vxs,ha,q2,q3,d,r1,r2⟩
  ·obtain⟨b,kx,vx,p1,p2,p3,p4,p5⟩:=s.od j ta ka va h
   exact⟨b,kx,vx,p1,p2,p3,p4.mono (Same.refl _) fun o q=>by rw[y4 (s.apd j i _ _ _ _ _ _ b a h hi hj p1 ha)];exact q,p5⟩
 ·have old:∀(j:Nat) t2 k2 v2,(ρ.set i (some (.od t' ks' vs')))[j]?=some (some (B.od t2 k2 v2))→∃t3 k3 v3,ρ[j]?=some (some (B.od t3 k3 v3)):=fun j t2 k2 v2 h=>by
   rcases Yq h with⟨rfl,_,_⟩ | ⟨_,h⟩
   ·exact⟨_,_,_,hi⟩
   ·exact⟨_,_,_,h⟩
  obtain⟨t1,k1,v1,e1⟩:=old j _ _ _ h1
  obtain⟨t2,k2,v2,e2⟩:=old k _ _ _ h2
  exact s.apd j k t1 k1 v1 t2 k2 v2 b c e1 e2 h3 h4 h5
theorem SR.freezeT(s:SR K H0 G0 σ H G ρ){i:Nat}{l:List D}(hi:ρ[i]?=some (some (B.ow l))):∃G',SR K H0 G0 σ H G' (ρ.set i (some (.sh (.lst l))))∧∀b ys,G' b=some (.tup ys)→G b=some (.tup ys):=by
 obtain⟨a,xs,q1,q2,q3,q4,q5⟩:=s.ow i l hi
 have hl:i < ρ.length:=(qm hi).1
 have sm:Same G (upd G a (.lst xs)):=fun b o e=>by rw[y4 (y3 e q2)];exact e
 refine⟨upd G a (.lst xs),?_,fun b ys e=>by
  by_cases z:b=a
  ·subst z;rw[y0]at e;cases e
  ·rw[y4 z]at e;exact e⟩
 refine⟨⟨s.gr.h,s.gr.g.trans sm,fun b o e=>?_,fun b h h'=>?_⟩,by simp[s.len],fun j e h=>?_,fun j m h=>?_,fun j k m m' b c h1 h2 h3 h4 h5=>?_,fun j t ks vs h=>?_,fun j k t ks vs t' ks' vs' b c h1 h2 h3 h4 h5=>?_⟩
 ·by_cases z:b=a
  ·subst z;rw[y0]at e;rw[q4];exact e
  ·rw[y4 z]at e;exact s.gr.s b o e
 ·by_cases z:b=a
  ·subst z;exact q3
  ·rw[y4 z]at h';exact s.gr.n b h h'
 ·rcases Yq h with⟨rfl,e1,_⟩ | ⟨hj,h⟩
  ·cases e1
   exact⟨_,q1,by rw[Rp];exact⟨a,xs,rfl,.inl y0,q5.mono sm⟩⟩
  ·obtain⟨v,p1,p2⟩:=s.sh j e h
   exact⟨v,p1,p2.mono sm⟩
 ·rcases Yq h with⟨rfl,e1,_⟩ | ⟨hj,h⟩
  ·cases e1
  ·obtain⟨b,zs,p1,p2,p3,p4,p5⟩:=s.ow j m h
   exact⟨b,zs,p1,by rw[y4 (s.ap j i m l b a h hi hj p1 q1)];exact p2,p3,p4,p5.mono sm⟩
 ·rcases Yq h1 with⟨rfl,e1,_⟩ | ⟨hj,h1⟩
  ·cases e1
  ·rcases Yq h2 with⟨rfl,e1,_⟩ | ⟨hk,h2⟩
   ·cases e1
   ·exact s.ap j k m m' b c h1 h2 h3 h4 h5
 ·rcases Yq h with⟨rfl,e1,_⟩ | ⟨hj,h⟩
  ·cases e1
  ·obtain⟨b,kxs,vxs,p1,p2,p3,p4,p5,p6⟩:=s.od j t ks vs h
   obtain⟨o',q',nl⟩:=p4.some
   exact⟨b,kxs,vxs,p1,by rw[y4 (fun z=>by rw[z,q4]at q';cases q';exact nl _ rfl)];exact p2,p3,p4.mono sm fun _ z=>z,p5.mono sm,p6.mono sm⟩
 ·rcases Yq h1 with⟨rfl,e1,_⟩ | ⟨hj,h1⟩
  ·cases e1
  ·rcases Yq h2 with⟨rfl,e1,_⟩ | ⟨hk,h2⟩
   ·cases e1
   ·exact s.apd j k t ks vs t' ks' vs' b c h1 h2 h3 h4 h5
theorem SR.freeze(s:SR K H0 G0 σ H G ρ){i:Nat}{l:List D}(hi:ρ[i]?=some (some (B.ow l))):∃G',SR K H0 G0 σ H G' (ρ.set i (some (.sh (.lst l)))):=by
 obtain⟨G',h,_⟩:=s.freezeT hi
 exact⟨G',h⟩
theorem SR.freezedT(s:SR K H0 G0 σ H G ρ){i:Nat}{t:Bool}{ks vs:List D}(hi:ρ[i]?=some (some (B.od t ks vs))):∃G',SR K H0 G0 σ H G' (ρ.set i (some (.sh (.dct t ks vs))))∧∀b ys,G' b=some (.tup ys)→G b=some (.tup ys):=by
 obtain⟨a,kxs,vxs,q1,q2,q3,q4,q5,q6⟩:=s.od i t ks vs hi
 obtain⟨o,q7,nl⟩:=q4.some
 have hl:i < ρ.length:=(qm hi).1
 have sm:Same G (upd G a o):=fun b o e=>by rw[y4 (y3 e q2)];exact e
 obtain⟨oT,q8,nt⟩:=q4.someT
 rw[q7]at q8
 cases q8
 refine⟨upd G a o,?_,fun b ys e=>by
  by_cases z:b=a
  ·subst z;rw[y0]at e;cases e;exact absurd rfl (nt _)
  ·rw[y4 z]at e;exact e⟩
 refine⟨⟨s.gr.h,s.gr.g.trans sm,fun b o' e=>?_,fun b h h'=>?_⟩,by simp[s.len],fun j e h=>?_,fun j m h=>?_,fun j k m m' b c h1 h2 h3 h4 h5=>?_,fun j t ks vs h=>?_,fun j k t ks vs t' ks' vs' b c h1 h2 h3 h4 h5=>?_⟩
 ·by_cases z:b=a
  ·subst z;rw[y0]at e;rw[q7];exact e
  ·rw[y4 z]at e;exact s.gr.s b o' e
 ·by_cases z:b=a
  ·subst z;exact q3
  ·rw[y4 z]at h';exact s.gr.n b h h'
 ·rcases Yq h with⟨rfl,e1,_⟩ | ⟨hj,h⟩
  ·cases e1
   refine⟨_,q1,?_⟩
   rw[Rp]
   refine⟨a,kxs,vxs,rfl,q4.mono sm fun o' z=>?_,q5.mono sm,q6.mono sm⟩
   rw[q7]at z
   rw[y0];exact z
  ·obtain⟨v,p1,p2⟩:=s.sh j e h
   exact⟨v,p1,p2.mono sm⟩
 ·rcases Yq h with⟨rfl,e1,_⟩ | ⟨hj,h⟩
  ·cases e1
  ·obtain⟨b,zs,p1,p2,p3,p4,p5⟩:=s.ow j m h
   exact⟨b,zs,p1,by rw[y4 (fun z=>by rw[z,q7]at p4;cases p4;exact nl _ rfl)];exact p2,p3,p4,p5.mono sm⟩
 ·rcases Yq h1 with⟨rfl,e1,_⟩ | ⟨hj,h1⟩
  ·cases e1
  ·rcases Yq h2 with⟨rfl,e1,_⟩ | ⟨hk,h2⟩
   ·cases e1
   ·exact s.ap j k m m' b c h1 h2 h3 h4 h5
 ·rcases Yq h with⟨rfl,e1,_⟩ | ⟨hj,h⟩
  ·cases e1
  ·obtain⟨b,kx,vx,p1,p2,p3,p4,p5,p6⟩:=s.od j t ks vs h
   exact⟨b,kx,vx,p1,by rw[y4 (s.apd j i _ _ _ _ _ _ b a h hi hj p1 q1)];exact p2,p3,p4.mono sm fun _ z=>z,p5.mono sm,p6.mono sm⟩
 ·rcases Yq h1 with⟨rfl,e1,_⟩ | ⟨hj,h1⟩
  ·cases e1
  ·rcases Yq h2 with⟨rfl,e1,_⟩ | ⟨hk,h2⟩
   ·cases e1
   ·exact s.apd j k t ks vs t' ks' vs' b c h1 h2 h3 h4 h5
theorem SR.freezed(s:SR K H0 G0 σ H G ρ){i:Nat}{t:Bool}{ks vs:List D}(hi:ρ[i]?=some (some (B.od t ks vs))):∃G',SR K H0 G0 σ H G' (ρ.set i (some (.sh (.dct t ks vs)))):=by
 obtain⟨G',h,_⟩:=s.freezedT hi
 exact⟨G',h⟩
def Le(ρ ρ':Ro):Prop:=ρ.length=ρ'.length∧∀(i:Nat) b,ρ[i]?=some (some b)→ρ'[i]?=some (some b)
theorem SR.le{ρ':Ro}(s:SR K H0 G0 σ H G ρ')(h:Le ρ ρ'):SR K H0 G0 σ H G ρ:=
 ⟨s.gr,s.len.trans h.1.symm,fun i d e=>s.sh i d (h.2 i _ e),fun i l e=>s.ow i l (h.2 i _ e),fun i j l l' a b e1 e2=>s.ap i j l l' a b (h.2 i _ e1) (h.2 j _ e2),
  fun i t ks vs e=>s.od i t ks vs (h.2 i _ e),fun i j t ks vs t' ks' vs' a b e1 e2=>s.apd i j t ks vs t' ks' vs' a b (h.2 i _ e1) (h.2 j _ e2)⟩
theorem SR.rebase(s:SR K H0 G0 σ H G ρ):∃H1,SR K H1 G σ H G ρ∧∀σ' H' G' ρ',SR K H1 G σ' H' G' ρ'→SR K H0 G0 σ' H' G' ρ':=by
 classical
 let own:Addr→Prop:=fun a=>∃(i:Nat),((∃l:List D,ρ[i]?=some (some (B.ow l)))∨(∃t ks vs,ρ[i]?=some (some (B.od t ks vs))))∧σ[i]?=some (some (V.ref a))
 have h0:∀a,own a→H0 a=none:=fun a hx_=>by
  obtain⟨i,e1,e2⟩:=hx_
  rcases e1 with⟨l,e1⟩ | ⟨t,ks,vs,e1⟩
  ·obtain⟨b,xs,q1,_,q3,_⟩:=s.ow i l e1
   rw[e2]at q1;cases q1;exact q3
  ·obtain⟨b,kxs,vxs,q1,_,q3,_⟩:=s.od i t ks vs e1
   rw[e2]at q1;cases q1;exact q3
 have back:∀a,(if own a then (none:Option HO)else H a)=none→H0 a=none:=fun a h=>by
  by_cases o:own a
  ·exact h0 a o
  ·rw[if_neg o]at h;exact s.gr.h.free h
 refine⟨fun a=>if own a then none else H a,⟨⟨fun b o e=>?_,Same.refl _,s.gr.s,fun _ h h'=>absurd h h'⟩,s.len,s.sh,fun i l e=>?_,s.ap,fun i t ks vs e=>?_,s.apd⟩,fun σ' H' G' ρ' t=>⟨⟨fun b o e=>?_,s.gr.g.trans t.gr.g,t.gr.s,fun b h h'=>?_⟩,t.len,t.sh,fun i l e=>?_,t.ap,fun i t1 ks vs e=>?_,t.apd⟩⟩
 ·by_cases z:own b
  ·simp only[if_pos z]at e;cases e
  ·simp only[if_neg z]at e;exact e
 ·obtain⟨a,xs,q1,q2,q3,q4,q5⟩:=s.ow i l e
  exact⟨a,xs,q1,q2,if_pos ⟨i,.inl ⟨l,e⟩,q1⟩,q4,q5⟩
 ·obtain⟨a,kxs,vxs,q1,q2,q3,q4⟩:=s.od i t ks vs e
  exact⟨a,kxs,vxs,q1,q2,if_pos ⟨i,.inr ⟨t,ks,vs,e⟩,q1⟩,q4⟩
 ·refine t.gr.h b o ?_
  have z:¬own b:=fun z=>by rw[h0 b z]at e;cases e
  show(if own b then none else H b)=some o
  rw[if_neg z];exact s.gr.h b o e
 ·by_cases z:G b=none
  ·exact back b (t.gr.n b z h')
  ·exact s.gr.n b h z
 ·obtain⟨a,xs,q1,q2,q3,q4,q5⟩:=t.ow i l e
  exact⟨a,xs,q1,q2,back a q3,q4,q5⟩
 ·obtain⟨a,kxs,vxs,q1,q2,q3,q4⟩:=t.od i t1 ks vs e
  exact⟨a,kxs,vxs,q1,q2,back a q3,q4⟩
end
noncomputable def tOf(K:W.Frag)(f:Ro→Option D):TE:=fun σ H Q=>∃ρ d H0 G0 G,f ρ=some d∧SR K H0 G0 σ H G ρ∧∀v H' G',Gr H G H' G'→Rp K G' d v→Q v H'
noncomputable def tCof(K:W.Frag)(f:Ro→Option D):TE:=fun σ H Q=>∃ρ d H0 G0 G,f ρ=some d∧SR K H0 G0 σ H G ρ∧∀v H' G',Gr H G H' G'→Ct K G' H' d v→Q v H'
noncomputable def tCAof(K:W.Frag)(f:Ro→Option (List D)):TA:=fun σ H Q=>∃ρ l H0 G0 G,f ρ=some l∧SR K H0 G0 σ H G ρ∧∀vs H' G',Gr H G H' G'→CtL K G' H' l vs→Q vs H'
noncomputable def tFof(K:W.Frag)(f:Ro→Option (List D)):TE:=fun σ H Q=>∃ρ l H0 G0 G,f ρ=some l∧SR K H0 G0 σ H G ρ∧∀p xs H' G',Gr H G H' G'→H p=none→G' p=none→H' p=some (.lst xs)→RpL K G' l xs→Q (.ref p) H'
noncomputable def tTof(K:W.Frag)(f:Ro→Option Bool):TT:=fun σ H Q=>∃ρ b H0 G0 G,f ρ=some b∧SR K H0 G0 σ H G ρ∧∀H' G',Gr H G H' G'→Q b H'
noncomputable def tAof(K:W.Frag)(f:Ro→Option (List D)):TA:=fun σ H Q=>∃ρ l H0 G0 G,f ρ=some l∧SR K H0 G0 σ H G ρ∧∀vs H' G',Gr H G H' G'→RpL K G' l vs→Q vs H'
def Wk(K:W.Frag)(J:It)(G':Hp)(ds:List D):Prop:=ds.length≤sizeLine∧∀(i:Nat) H2 G2,Same G' G2→Same G2 H2→
 (∀d,ds[i]?=some d→J.go i H2∧∀y H3,J.yld i H2 y H3→∃G3,Gr H2 G2 H3 G3∧Rp K G3 d y)∧(ds.length≤i→J.stop i H2)
noncomputable def tIof(K:W.Frag)(f:Ro→Option (List D)):TI:=fun σ H R=>∃ρ ds H0 G0 G,f ρ=some ds∧SR K H0 G0 σ H G ρ∧∀J H' G',Gr H G H' G'→Wk K J G' ds→R J H'
inductive Out where
 | nx (ρ:Ro) | rt (d:D) | bk (ρ:Ro) | ct (ρ:Ro)
noncomputable def Cont(K:W.Frag)(H0 G0:Hp)(F:Ends):Out→Prop
 | .nx ρ'=>∀σ' H' G',SR K H0 G0 σ' H' G' ρ'→F.nx σ' H'
 | .rt d=>∀v H' G',Gr H0 G0 H' G'→Rp K G' d v→F.rt v H'
 | .bk ρ'=>∀σ' H' G',SR K H0 G0 σ' H' G' ρ'→F.bk σ' H'
 | .ct ρ'=>∀σ' H' G',SR K H0 G0 σ' H' G' ρ'→F.ct σ' H'
noncomputable def sOf(K:W.Frag)(f:Ro→Option Out):TS:=fun F σ H=>∃ρ out H0 G0 G,f ρ=some out∧SR K H0 G0 σ H G ρ∧Cont K H0 G0 F out
noncomputable def gOf(K:W.Frag)(gt:D→Ro→Option Ro):TG:=fun v σ H Q=>∃d ρ ρ' H0 G0 G,gt d ρ=some ρ'∧SR K H0 G0 σ H G ρ∧Rp K G d v∧∀σ',SR K H0 G0 σ' H G ρ'→Q σ' H
noncomputable abbrev ME(X:Cx)(e:Expr)(f:Ro→Option D):Prop:=PE X e (tOf X.K f)
noncomputable abbrev MC(X:Cx)(e:Expr)(f:Ro→Option D):Prop:=PE X e (tCof X.K f)
noncomputable abbrev MCA(X:Cx)(es:List Expr)(f:Ro→Option (List D)):Prop:=PA X es (tCAof X.K f)
noncomputable abbrev MF(X:Cx)(e:Expr)(f:Ro→Option (List D)):Prop:=PE X e (tFof X.K f)
noncomputable abbrev MT(X:Cx)(e:Expr)(f:Ro→Option Bool):Prop:=PT X e (tTof X.K f)
noncomputable abbrev MA(X:Cx)(es:List Expr)(f:Ro→Option (List D)):Prop:=PA X es (tAof X.K f)
noncomputable abbrev MI(X:Cx)(tg iter:Expr)(f:Ro→Option (List D)):Prop:=PI X tg iter (tIof X.K f)
noncomputable abbrev MS(X:Cx)(st:Stmt)(f:Ro→Option Out):Prop:=PS X st (sOf X.K f)
noncomputable abbrev MB(X:Cx)(sts:List Stmt)(f:Ro→Option Out):Prop:=PSs X sts (sOf X.K f)
noncomputable abbrev MG(X:Cx)(tg:Expr)(gt:D→Ro→Option Ro):Prop:=PG X tg (gOf X.K gt)
section
variable {X:Cx}
theorem PE.imp{e:Expr}{t t':TE}(h:PE X e t)(i:∀σ H Q,t' σ H Q→t σ H Q):PE X e t':=fun pins s σ H Q I hw=>h pins s σ H Q I (i σ H Q hw)
theorem PT.imp{e:Expr}{t t':TT}(h:PT X e t)(i:∀σ H Q,t' σ H Q→t σ H Q):PT X e t':=fun pins s σ H Q I hw=>h pins s σ H Q I (i σ H Q hw)
theorem PA.imp{es:List Expr}{t t':TA}(h:PA X es t)(i:∀σ H Q,t' σ H Q→t σ H Q):PA X es t':=fun pos pins s σ H Q I hw=>h pos pins s σ H Q I (i σ H Q hw)
theorem PS.imp{st:Stmt}{t t':TS}(h:PS X st t)(i:∀F σ H,t' F σ H→t F σ H):PS X st t':=fun pins s σ H F I hw=>h pins s σ H F I (i F σ H hw)
theorem PSs.imp{st:List Stmt}{t t':TS}(h:PSs X st t)(i:∀F σ H,t' F σ H→t F σ H):PSs X st t':=fun pins s σ H F I hw=>h pins s σ H F I (i F σ H hw)
theorem PI.imp{tg e:Expr}{t t':TI}(h:PI X tg e t)(i:∀σ H R,t' σ H R→t σ H R):PI X tg e t':=fun pins s σ H R I hw=>h pins s σ H R I (i σ H R hw)
theorem PG.imp{e:Expr}{t t':TG}(h:PG X e t)(i:∀v σ H Q,t' v σ H Q→t v σ H Q):PG X e t':=fun pins s σ H v u Q I r hw=>h pins s σ H v u Q I r (i v σ H Q hw)
variable {H0 G0 H G:Hp} {σ:L2.St} {ρ:Ro}
theorem tOf.at{f:Ro→Option D}{d:D}{Q:VK}(e:f ρ=some d)(s:SR K H0 G0 σ H G ρ)(h:∀v H' G',Gr H G H' G'→Rp K G' d v→SR K H0 G0 σ H' G' ρ→Q v H'):tOf K f σ H Q:=
 ⟨ρ,d,H0,G0,G,e,s,fun v H' G' g r=>h v H' G' g r (s.grow g)⟩
theorem tCof.at{f:Ro→Option D}{d:D}{Q:VK}(e:f ρ=some d)(s:SR K H0 G0 σ H G ρ)(h:∀v H' G',Gr H G H' G'→Ct K G' H' d v→SR K H0 G0 σ H' G' ρ→Q v H'):tCof K f σ H Q:=
 ⟨ρ,d,H0,G0,G,e,s,fun v H' G' g r=>h v H' G' g r (s.grow g)⟩
theorem tCAof.at{f:Ro→Option (List D)}{l:List D}{Q:List V→Hp→Prop}(e:f ρ=some l)(s:SR K H0 G0 σ H G ρ)(h:∀vs H' G',Gr H G H' G'→CtL K G' H' l vs→SR K H0 G0 σ H' G' ρ→Q vs H'):tCAof K f σ H Q:=
 ⟨ρ,l,H0,G0,G,e,s,fun v H' G' g r=>h v H' G' g r (s.grow g)⟩
theorem ME.mc{e:Expr}{f:Ro→Option D}(h:ME X e f):MC X e f:=PE.imp h fun σ H Q ⟨ρ,d,H0,G0,G,e,s,h⟩=>⟨ρ,d,H0,G0,G,e,s,fun v H' G' g r=>h v H' G' g (.of g.s r)⟩
theorem tTof.at{f:Ro→Option Bool}{b:Bool}{Q:Bool→Hp→Prop}(e:f ρ=some b)(s:SR K H0 G0 σ H G ρ)(h:∀H' G',Gr H G H' G'→SR K H0 G0 σ H' G' ρ→Q b H'):tTof K f σ H Q:=
 ⟨ρ,b,H0,G0,G,e,s,fun H' G' g=>h H' G' g (s.grow g)⟩
theorem tAof.at{f:Ro→Option (List D)}{l:List D}{Q:List V→Hp→Prop}(e:f ρ=some l)(s:SR K H0 G0 σ H G ρ)(h:∀vs H' G',Gr H G H' G'→RpL K G' l vs→SR K H0 G0 σ H' G' ρ→Q vs H'):tAof K f σ H Q:=
 ⟨ρ,l,H0,G0,G,e,s,fun v H' G' g r=>h v H' G' g r (s.grow g)⟩
end
end
section
variable {K:W.Frag}
noncomputable def b2{α:Type}(fa fb:Ro→Option D)(g:D→D→Option α):Ro→Option α:=fun ρ=>(fa ρ).bind fun x=>(fb ρ).bind fun y=>g x y
noncomputable def b1{α:Type}(fa:Ro→Option D)(g:D→Option α):Ro→Option α:=fun ρ=>(fa ρ).bind g
theorem Yj5{α:Type}{fa fb:Ro→Option D}{g:D→D→Option α}{ρ:Ro}{r:α}(h:b2 fa fb g ρ=some r):∃x y,fa ρ=some x∧fb ρ=some y∧g x y=some r:=by
 unfold b2 at h
 obtain⟨x,h1,h⟩:=qa h
 obtain⟨y,h2,h⟩:=qa h
 exact⟨x,y,h1,h2,h⟩
theorem Yer{α:Type}{fa:Ro→Option D}{g:D→Option α}{ρ:Ro}{r:α}(h:b1 fa g ρ=some r):∃x,fa ρ=some x∧g x=some r:=by
 unfold b1 at h
 obtain⟨x,h1,h⟩:=qa h
 exact⟨x,h1,h⟩
def Sem2(K:W.Frag)(r:R2)(g:D→D→Option D):Prop:=∀(x y:V) (dx dy d:D) (H G:Hp) (Q:VK),g dx dy=some d→Same G H→Ct K G H dx x→Ct K G H dy y→(∀v H' G',Gr H G H' G'→Rp K G' d v→Q v H')→r x y H Q
def Ygt(K:W.Frag)(r:R2)(g:D→D→Option Bool):Prop:=∀(x y:V) (dx dy:D) (b:Bool) (H G:Hp) (Q:VK),g dx dy=some b→Same G H→Ct K G H dx x→Ct K G H dy y→Q (.bl b) H→r x y H Q
def SemC(K:W.Frag)(r:List V→Hp→VK→Prop)(g:List D→Option D):Prop:=∀(vs:List V) (ds:List D) (d:D) (H G:Hp) (Q:VK),g ds=some d→Same G H→CtL K G H ds vs→(∀v H' G',Gr H G H' G'→Rp K G' d v→Q v H')→r vs H Q
def SemF(K:W.Frag)(r:List V→Hp→VK→Prop)(g:List D→Option (List D)):Prop:=∀(vs:List V) (ds l:List D) (H G:Hp) (Q:VK),g ds=some l→Same G H→CtL K G H ds vs→
 (∀p xs H' G',Gr H G H' G'→H p=none→G' p=none→H' p=some (.lst xs)→RpL K G' l xs→Q (.ref p) H')→r vs H Q
section
variable {X:Cx} {a b c e:Expr} {es:List Expr} {fa fb fc f:Ro→Option D} {ga:Ro→Option (List D)} {pos:Pos}
noncomputable def getV(i:Nat):Ro→Option D:=fun ρ=>match ρ[i]? with
 | some (some (B.sh d))=>some d
 | _=>none
noncomputable def getO(i:Nat):Ro→Option (List D):=fun ρ=>match ρ[i]? with
 | some (some (B.ow l))=>some l
 | _=>none
theorem Yu8{i:Nat}{ρ:Ro}{d:D}(h:getV i ρ=some d):ρ[i]?=some (some (B.sh d)):=by
 unfold getV at h
 split at h
 ·cases h;assumption
 ·cases h
theorem Yo4{i:Nat}{ρ:Ro}{l:List D}(h:getO i ρ=some l):ρ[i]?=some (some (B.ow l)):=by
 unfold getO at h
 split at h
 ·cases h;assumption
 ·cases h
theorem y3m(i:Nat){x:Str}(hN:X.N[i]?=some x:=by rfl)(hv:Vis X.env.scope x:=by first | exact Or.inl rfl | exact Or.inr (Or.inl rfl) | exact Or.inr (Or.inr rfl))(hd:(x==("__debug__":Str))=false:=by decide)
 (hcd:(x==("__classdict__":Str))=false:=by decide):ME X (.Name x pos) (getV i):=
 PE.imp (Yr6 hN hv hd hcd) fun σ H Q hx_=>by
  obtain⟨ρ,d,H0,G0,G,e,s,h⟩:=hx_
  obtain⟨v,h1,h2⟩:=s.sh i d (Yu8 e)
  exact⟨v,h1,h v H G (.refl s.seen) h2⟩
noncomputable def getC(i:Nat):Ro→Option D:=fun ρ=>match ρ[i]? with
 | some (some (B.sh d))=>some d
 | some (some (B.ow l))=>some (.lst l)
 | some (some (B.od t ks vs))=>some (.dct t ks vs)
 | _=>none
theorem y3n(i:Nat){x:Str}(hN:X.N[i]?=some x:=by rfl)(hv:Vis X.env.scope x:=by first | exact Or.inl rfl | exact Or.inr (Or.inl rfl) | exact Or.inr (Or.inr rfl))(hd:(x==("__debug__":Str))=false:=by decide)
 (hcd:(x==("__classdict__":Str))=false:=by decide):MC X (.Name x pos) (getC i):=
 PE.imp (Yr6 hN hv hd hcd) fun σ H Q hx_=>by
  obtain⟨ρ,d,H0,G0,G,e,s,h⟩:=hx_
  unfold getC at e
  split at e
  ·rename_i d' hd'
   cases e
   obtain⟨v,h1,h2⟩:=s.sh i _ hd'
   exact⟨v,h1,h v H G (.refl s.seen) (.of s.seen h2)⟩
  ·rename_i l hl
   cases e
   obtain⟨a,xs,h1,h2,h3,h4,h5⟩:=s.ow i l hl
   exact⟨_,h1,h _ H G (.refl s.seen) (by rw[Ct];exact⟨a,xs,rfl,.inl h4,h5⟩)⟩
  ·rename_i t ks vs hl
   cases e
   obtain⟨a,kxs,vxs,h1,h2,h3,h4,h5⟩:=s.od i t ks vs hl
   exact⟨_,h1,h _ H G (.refl s.seen) (by rw[Ct];exact⟨a,kxs,vxs,rfl,h4,h5⟩)⟩
  ·cases e
noncomputable def kD(d:D):Ro→Option D:=fun _=>some d
theorem Yjx{v:V}{d:D}{t:TE}(h:PE X e t)(ht:∀σ H Q,Q v H→t σ H Q)(hr:∀G,Rp X.K G d v):ME X e (kD d):=
 PE.imp h fun σ H Q hx_=>by
  obtain⟨ρ,d',H0,G0,G,e,s,h⟩:=hx_
  cases e
  exact ht σ H Q (h v H G (.refl s.seen) (hr G))
theorem Yzb{i:Int}{j}:ME X (.Constant (.int i) j pos) (kD (.int i)):=Yjx (v:=.int i) y2m (fun _ _ _ q=>q) fun _=>by rw[Rp]
theorem y6f{k:Bool}{j}:ME X (.Constant (.bool k) j pos) (kD (.bl k)):=Yjx (v:=.bl k) y5v (fun _ _ _ q=>q) fun _=>by rw[Rp]
theorem y3o{j}:ME X (.Constant .none j pos) (kD .non):=Yjx (v:=.non) y2n (fun _ _ _ q=>q) fun _=>by rw[Rp]
theorem y3p{x:Str}{j}(hx:PyData.strOk x=true:=by decide +kernel):ME X (.Constant (.str x) j pos) (kD (.str x)):=Yjx (v:=.str x) y2o (fun _ _ _ q=>q) fun _=>by rw[Rp];exact⟨rfl,hx⟩
theorem Yzc{r:R2}{g:D→D→Option D}(hr:Sem2 K r g){σ:L2.St}{H:Hp}{Q:VK}(h:tOf K (b2 fa fb g) σ H Q):tOp r (tCof K fa) (tCof K fb) σ H Q:=by
 obtain⟨ρ,d,H0,G0,G,e,s,h⟩:=h
 obtain⟨dx,dy,h1,h2,h3⟩:=Yj5 e
 exact tCof.at h1 s fun v H1 G1 g1 r1 s1=>tCof.at h2 s1 fun u H2 G2 g2 r2 s2=>hr v u dx dy d H2 G2 Q h3 s2.seen (r1.grow g2) r2 fun w H' G' g3 r3=>h w H' G' ((g1.trans g2).trans g3) r3
theorem y0o{r:R2}{g:D→D→Option Bool}(hr:Ygt K r g){σ:L2.St}{H:Hp}{Q:Bool→Hp→Prop}(h:tTof K (b2 fa fb g) σ H Q):y25 (tOp r (tCof K fa) (tCof K fb)) σ H Q:=by
 obtain⟨ρ,d,H0,G0,G,e,s,h⟩:=h
 obtain⟨dx,dy,h1,h2,h3⟩:=Yj5 e
 exact tCof.at h1 s fun v H1 G1 g1 r1 s1=>tCof.at h2 s1 fun u H2 G2 g2 r2 s2=>hr v u dx dy d H2 G2 _ h3 s2.seen (r1.grow g2) r2 ⟨d,rfl,h H2 G2 (g1.trans g2)⟩
noncomputable def mB(f:Ro→Option Bool):Ro→Option D:=fun ρ=>(f ρ).map D.bl
theorem Yqv{f:Ro→Option Bool}{ρ:Ro}{d:D}(h:mB f ρ=some d):∃b,f ρ=some b∧d=.bl b:=by
 unfold mB at h
 obtain⟨b,h1,h2⟩:=qb h
 exact⟨b,h1,h2.symm⟩
theorem Yxs{r:R2}{g:D→D→Option Bool}(hr:Ygt K r g){σ:L2.St}{H:Hp}{Q:VK}(h:tOf K (mB (b2 fa fb g)) σ H Q):tOp r (tCof K fa) (tCof K fb) σ H Q:=by
 obtain⟨ρ,d,H0,G0,G,e,s,h⟩:=h
 obtain⟨b,eb,rfl⟩:=Yqv e
 obtain⟨dx,dy,h1,h2,h3⟩:=Yj5 eb
 exact tCof.at h1 s fun v H1 G1 g1 r1 s1=>tCof.at h2 s1 fun u H2 G2 g2 r2 s2=>hr v u dx dy b H2 G2 _ h3 s2.seen (r1.grow g2) r2 (h _ H2 G2 (g1.trans g2) (by rw[Rp]))
theorem Ymj{op:Operator}{r:R2}{g:D→D→Option D}(ho:OpR X (binaryOp op) r)(hr:Sem2 X.K r g)(ha:MC X a fa)(hb:MC X b fb):ME X (.BinOp a op b pos) (b2 fa fb g):=PE.imp (Yz3 ho ha hb) fun _ _ _ h=>Yzc hr h
theorem Yj6{op:CmpOp}{r:R2}{g:D→D→Option Bool}(ho:OpR X (compareOp op) r)(hr:Ygt X.K r g)(ha:MC X a fa)(hb:MC X b fb)(hm:behindInMarks op b=false):ME X (.Compare a [op] [b] pos) (mB (b2 fa fb g)):=PE.imp (Yz5 ho ha hb hm) fun _ _ _ h=>Yxs hr h
theorem Yhz{op:CmpOp}{r:R2}{g:D→D→Option Bool}(ho:OpR X (compareOp op) r)(hr:Ygt X.K r g)(ha:MC X a fa)(hb:MC X b fb)(hm:behindInMarks op b=false):MT X (.Compare a [op] [b] pos) (b2 fa fb g):=PT.imp (Yz6 ho ha hb hm) fun _ _ _ h=>y0o hr h
theorem y6g{r:R2}{g:D→D→Option D}(hi:IxR X r)(hr:Sem2 X.K r g)(ha:MC X a fa)(hb:MC X b fb)(hs:Yin b):ME X (.Subscript a b pos) (b2 fa fb g):=PE.imp (y6d hi ha hb hs) fun _ _ _ h=>Yzc hr h
noncomputable def i2(C:Int→Int→Bool)(g:Int→Int→Int):D→D→Option D
 | .int i,.int j=>if C i j=true then some (.int (g i j))else none
 | _,_=>none
noncomputable def i2b(g:Int→Int→Bool):D→D→Option Bool
 | .int i,.int j=>some (g i j)
 | _,_=>none
theorem Ysh{C:Int→Int→Prop}{Cb:Int→Int→Bool}(hC:∀i j,Cb i j=true→C i j){g:Int→Int→Int}:Sem2 K (rI C fun i j=>.int (g i j)) (i2 Cb g):=by
 intro x y dx dy d H G Q h s rx ry q
 unfold i2 at h
 split at h
 ·split at h
  ·rename_i i j hc
   cases h
   rw[Ct]at rx ry
   subst rx;subst ry
   exact⟨i,j,rfl,rfl,hC i j hc,q _ H G (.refl s) (by rw[Rp])⟩
  ·cases h
 ·cases h
theorem Yu9{g:Int→Int→Int}:Sem2 K (rI0 fun i j=>.int (g i j)) (i2 (fun _ _=>true) g):=by
 intro x y dx dy d H G Q h s rx ry q
 unfold i2 at h
 split at h
 ·split at h
  ·rename_i i j hc
   cases h
   rw[Ct]at rx ry
   subst rx;subst ry
   exact⟨i,j,rfl,rfl,q _ H G (.refl s) (by rw[Rp])⟩
  ·cases h
 ·cases h
theorem Ym9{g:Int→Int→Bool}:Ygt K (rI0 fun i j=>.bl (g i j)) (i2b g):=by
 intro x y dx dy d H G Q h s rx ry q
 unfold i2b at h
 split at h
 ·rename_i i j
  cases h
  rw[Ct]at rx ry
  subst rx;subst ry
  exact⟨i,j,rfl,rfl,q⟩
 ·cases h
noncomputable def addI:D→D→Option D:=i2 (fun _ _=>true) fun i j=>i+j
noncomputable def subI:D→D→Option D:=i2 (fun _ _=>true) fun i j=>i - j
noncomputable def mulI:D→D→Option D:=i2 (fun i j=>(decide (-(2 ^ 64) < i)&&decide (i < 2 ^ 64))||(decide (-(2 ^ 64) < j)&&decide (j < 2 ^ 64))) fun i j=>i * j
noncomputable def divI:D→D→Option D:=i2 (fun _ j=>decide (0 < j)&&decide (j < 1073741824)) fun i j=>i / j
noncomputable def modI:D→D→Option D:=i2 (fun _ j=>decide (0 < j)) fun i j=>i % j
theorem y3q(ha:MC X a fa)(hb:MC X b fb):ME X (.BinOp a .Sub b pos) (b2 fa fb subI):=Ymj y2z Yu9 ha hb
theorem y3r(ha:MC X a fa)(hb:MC X b fb):ME X (.BinOp a .Mult b pos) (b2 fa fb mulI):=Ymj y20 (Ysh fun i j h=>by
 simp only[Bool.or_eq_true,Qd,decide_eq_true_eq]at h
 exact h) ha hb
theorem y3s(ha:MC X a fa)(hb:MC X b fb):ME X (.BinOp a .FloorDiv b pos) (b2 fa fb divI):=Ymj Yz4 (Ysh fun i j h=>by
 simp only[Qd,decide_eq_true_eq]at h
 exact h) ha hb
theorem y3t(ha:MC X a fa)(hb:MC X b fb):ME X (.BinOp a .Mod b pos) (b2 fa fb modI):=Ymj y21 (Ysh fun i j h=>of_decide_eq_true h) ha hb
noncomputable def ltI:=i2b fun i j=>decide (i < j)
noncomputable def leI:=i2b fun i j=>decide (i≤j)
noncomputable def gtI:=i2b fun i j=>decide (j < i)
theorem y6h(ha:MC X a fa)(hb:MC X b fb):MT X (.Compare a [.Lt] [b] pos) (b2 fa fb ltI):=Yhz y24 Ym9 ha hb (Yfz _)
theorem y6i(ha:MC X a fa)(hb:MC X b fb):MT X (.Compare a [.Gt] [b] pos) (b2 fa fb gtI):=Yhz y57 Ym9 ha hb (Yfz _)
mutual
noncomputable def dep:D→Nat
 | .tup l=>depL l+1
 | .lst l=>depL l+1
 | .scr _=>1
 | .dct _ _ _=>1000
 | _=>0
noncomputable def depL:List D→Nat
 | []=>0
 | d::l=>max (dep d) (depL l)
end
mutual
theorem Ycv:∀d:D,(toPy d).depth≤dep d
 | .non=>by simp[toPy,PyData.depth,dep]
 | .bl b=>by simp[toPy,PyData.depth,dep]
 | .int b=>by simp[toPy,PyData.depth,dep]
 | .str b=>by simp[toPy,PyData.depth,dep]
 | .tup l=>by have:=Ydy l;simp[toPy,PyData.depth,dep];lia
 | .lst l=>by have:=Ydy l;simp[toPy,PyData.depth,dep];lia
 | .scr ns=>by rw[toPy,PyData.depth,dep,W.ke_depthAll];exact qt _
 | .dct _ _ _=>by simp[toPy,PyData.depth,dep]
theorem Ydy:∀l:List D,PyData.depthAll (Ydq l)≤depL l
 | []=>by simp[Ydq,PyData.depthAll,depL]
 | d::l=>by have h1:=Ycv d;have h2:=Ydy l;simp[Ydq,PyData.depthAll,depL];lia
end
section
variable {pins:List (Addr × Obj)} {σ:L2.St} {H:Hp} {s:Shared}
mutual
theorem Ydr(I:Inv X pins σ H s):∀{d:D} {v:V} {u:Value},dep d≤100→Rp X.K H d v→RelV v u→∃as,Reads s.heap u (toPy d) as∧(toPy d).canLay0=true
 | .non,v,u,_,r,q=>by
   rw[Rp]at r;subst r
   cases q
   exact⟨_,by rw[toPy];exact .none,by simp[toPy,PyData.canLay0]⟩
 | .bl b,v,u,_,r,q=>by
   rw[Rp]at r;subst r
   cases q
   exact⟨_,by rw[toPy];exact .bool b,by simp[toPy,PyData.canLay0]⟩
 | .int i,v,u,_,r,q=>by
   rw[Rp]at r;subst r
   obtain⟨t,rfl⟩:=q
   exact⟨_,by rw[toPy];exact .int i t,by simp[toPy,PyData.canLay0]⟩
 | .str x,v,u,_,r,q=>by
   rw[Rp]at r;obtain⟨rfl,hx⟩:=r
   obtain⟨t,rfl⟩:=q
   exact⟨_,by rw[toPy];exact .str x t,by simp[toPy,PyData.canLay0,hx]⟩
 | .tup l,v,u,hd,r,q=>by
   rw[Rp]at r
   obtain⟨a,xs,rfl,g,rl⟩:=r
   cases q
   obtain⟨_,its,rv,ht⟩:=(show ObjOk X.prog X.w H s.heap a (.tup xs) from I.hok a _ g)
   obtain⟨o,h1,h2,n,h3⟩:=ht
   obtain⟨as,q,hc⟩:=Yj7 I (by simp only[dep]at hd;lia) rl rv
   exact⟨_,by rw[toPy];exact .tuple h1 h2 h3 (by simpa using q),by simpa [toPy,PyData.canLay0]using hc⟩
 | .lst l,v,u,hd,r,q=>by
   rw[Rp]at r
   obtain⟨a,xs,rfl,g,rl⟩:=r
   cases q
   obtain⟨its,rv,pl,_⟩:=I.list (.inl g)
   obtain⟨o,h1,h2,n,h3⟩:=pl.isList
   obtain⟨as,q,hc⟩:=Yj7 I (by simp only[dep]at hd;lia) rl rv
   exact⟨_,by rw[toPy];exact .list h1 h2 h3 (by simpa using q),by simpa [toPy,PyData.canLay0]using hc⟩
 | .dct _ _ _,v,u,hd,r,q=>by simp[dep]at hd
 | .scr ns,v,u,_,r,q=>by
   rw[Rp]at r
   obtain⟨a,rfl,g⟩:=r
   cases q
   obtain⟨its,rv,pl,_⟩:=I.list g
   exact⟨_,by rw[toPy];exact W.reads_of_ints pl.isList (Ygl rv),by rw[toPy];simp[PyData.canLay0,W.ke_canLayAll0]⟩
theorem Yj7(I:Inv X pins σ H s):∀{l:List D} {xs:List V} {us:List Value},depL l≤100→RpL X.K H l xs→Vals xs us→∃as,ReadsAll s.heap us (Ydq l) as∧PyData.canLayAll0 (Ydq l)=true
 | [],xs,us,_,r,q=>by
   rw[RpL]at r;subst r
   cases q
   exact⟨_,by rw[Ydq];exact .nil,by simp[Ydq,PyData.canLayAll0]⟩
 | d::l,xs,us,hd,r,q=>by
   rw[RpL]at r
   obtain⟨x,xs,rfl,r1,r2⟩:=r
   rw[depL]at hd
   cases q with
   | cons q1 q2=>
     obtain⟨as,h1,h2⟩:=Ydr I (by lia) r1 q1
     obtain⟨bs,h3,h4⟩:=Yj7 I (by lia) r2 q2
     exact⟨_,by rw[Ydq];exact .cons h1 h3,by simp[Ydq,PyData.canLayAll0,h2,h4]⟩
end
end
theorem Ye3(l:List D)(d:D):((Ydq l).any fun y=>PyData.eqv y (toPy d))=l.any fun y=>eqD y d:=by
 induction l with
 | nil=>simp[Ydq]
 | cons e l ih=>
   rw[Ydq,List.any_cons,List.any_cons,ih]
   rfl
noncomputable def eqM(neg:Bool):D→D→Option Bool:=fun d e=>if dep d≤60∧dep e≤60 then some (if neg then !eqD d e else eqD d e)else none
noncomputable def rEqD(K:W.Frag)(neg:Bool):R2:=fun x y H Q=>∃d e,Rp K H d x∧Rp K H e y∧(dep d≤60∧dep e≤60)∧Q (.bl (if neg then !eqD d e else eqD d e)) H
theorem Yzd(hu:X.A.units+64 < cLine):OpR X (compareOp .Eq) (rEqD X.K false):=by
 intro pins s σ H x y v u Q I rx ry h
 obtain⟨d,e,r1,r2,hd,q⟩:=h
 obtain⟨as,h1,h2⟩:=Ydr I (by lia) r1 rx
 obtain⟨bs,h3,h4⟩:=Ydr I (by lia) r2 ry
 exact SeqAt.eqOverData X.prog X.w X.A X.xe s v u _ _ as bs _ h1 h3 h2 h4 (by have:=Ycv d;have:=Ycv e;lia) ⟨.bl _,H,I,rfl,by exact q⟩
theorem Yze(hu:X.A.units+64 < cLine):OpR X (compareOp .NotEq) (rEqD X.K true):=by
 intro pins s σ H x y v u Q I rx ry h
 obtain⟨d,e,r1,r2,hd,q⟩:=h
 obtain⟨as,h1,h2⟩:=Ydr I (by lia) r1 rx
 obtain⟨bs,h3,h4⟩:=Ydr I (by lia) r2 ry
 exact SeqAt.neOverData X.prog X.w X.A X.xe s v u _ _ as bs _ h1 h3 h2 h4 (by have:=Ycv d;have:=Ycv e;lia) ⟨.bl _,H,I,rfl,by exact q⟩
theorem Yna{neg:Bool}:Ygt K (rEqD K neg) (eqM neg):=by
 intro x y dx dy b H G Q h s rx ry q
 unfold eqM at h
 split at h
 ·cases h
  exact⟨dx,dy,rx.rp s,ry.rp s,by assumption,q⟩
 ·cases h
theorem y6j(hu:X.A.units+64 < cLine)(ha:MC X a fa)(hb:MC X b fb):ME X (.Compare a [.Eq] [b] pos) (mB (b2 fa fb (eqM false))):=Yj6 (Yzd hu) Yna ha hb (Yfz _)
theorem y6k(hu:X.A.units+64 < cLine)(ha:MC X a fa)(hb:MC X b fb):ME X (.Compare a [.NotEq] [b] pos) (mB (b2 fa fb (eqM true))):=Yj6 (Yze hu) Yna ha hb (Yfz _)
theorem y6l(hu:X.A.units+64 < cLine)(ha:MC X a fa)(hb:MC X b fb):MT X (.Compare a [.Eq] [b] pos) (b2 fa fb (eqM false)):=Yhz (Yzd hu) Yna ha hb (Yfz _)
theorem y6m(hu:X.A.units+64 < cLine)(ha:MC X a fa)(hb:MC X b fb):MT X (.Compare a [.NotEq] [b] pos) (b2 fa fb (eqM true)):=Yhz (Yze hu) Yna ha hb (Yfz _)
noncomputable def Yr:D→Option (List D)
 | .tup l=>some l
 | .lst l=>some l
 | .scr ns=>some (ns.map D.int)
 | _=>none
noncomputable def inD(d:D)(l:List D):Bool:=l.any fun y=>eqD y d
noncomputable def inM(neg:Bool):D→D→Option Bool:=fun d c=>(Yr c).bind fun l=>if depL l≤60∧dep d≤60 then some (if neg then !inD d l else inD d l)else none
noncomputable def rInD(K:W.Frag)(neg:Bool):R2:=fun x y H Q=>∃d c l,Rp K H d x∧Rp K H c y∧Yr c=some l∧(depL l≤60∧dep d≤60)∧Q (.bl (if neg then !inD d l else inD d l)) H
theorem Yax{c:D}{l:List D}(h:Yr c=some l):c=.tup l∨c=.lst l∨∃ns,c=.scr ns∧l=ns.map D.int:=by
 cases c with
 | tup m=>cases h;exact .inl rfl
 | lst m=>cases h;exact .inr (.inl rfl)
 | scr ns=>cases h;exact .inr (.inr ⟨ns,rfl,rfl⟩)
 | non=>cases h
 | bl _=>cases h
 | int _=>cases h
 | str _=>cases h
 | dct _ _ _=>cases h
theorem Yiq:∀ns:List Int,Ydq (ns.map D.int)=ns.map PyData.int
 | []=>by simp[Ydq]
 | n::ns=>by simp[Ydq,toPy,Yiq ns]
theorem Yzf(hu:X.A.units+64 < cLine):OpR X (compareOp .In) (rInD X.K false):=by
 intro pins s σ H x y v u Q I rx ry h
 obtain⟨d,c,l,r1,r2,hc,hd,q⟩:=h
 obtain⟨as,h1,h2⟩:=Ydr I (by lia) r1 rx
 have hdc:dep c≤61:=by
  rcases Yax hc with rfl | rfl | ⟨ns,rfl,rfl⟩
  ·rw[dep];lia
  ·rw[dep];lia
  ·rw[dep];lia
 obtain⟨bs,h3,h4⟩:=Ydr I (by lia) r2 ry
 have hdd:=Ycv d
 have hdl:=Ydy l
 rcases Yax hc with rfl | rfl | ⟨ns,rfl,rfl⟩
 ·rw[toPy]at h3 h4
  exact SeqAt.in_tuple_reads h3 h1 (by simpa [PyData.canLay0]using h4) h2 (by lia) ⟨.bl _,H,I,rfl,by rw[Ye3];exact q⟩
 ·rw[toPy]at h3 h4
  exact SeqAt.in_list_reads h3 h1 (by simpa [PyData.canLay0]using h4) h2 (by lia) ⟨.bl _,H,I,rfl,by rw[Ye3];exact q⟩
 ·rw[toPy,←Yiq]at h3 h4
  exact SeqAt.in_list_reads h3 h1 (by simpa [PyData.canLay0]using h4) h2 (by lia) ⟨.bl _,H,I,rfl,by rw[Ye3];exact q⟩
theorem Yva(hu:X.A.units+64 < cLine):OpR X (compareOp .NotIn) (rInD X.K true):=by
 intro pins s σ H x y v u Q I rx ry h
 obtain⟨d,c,l,r1,r2,hc,hd,q⟩:=h
 obtain⟨as,h1,h2⟩:=Ydr I (by lia) r1 rx
 have hdc:dep c≤61:=by
  rcases Yax hc with rfl | rfl | ⟨ns,rfl,rfl⟩
  ·rw[dep];lia
  ·rw[dep];lia
  ·rw[dep];lia
 obtain⟨bs,h3,h4⟩:=Ydr I (by lia) r2 ry
 have hdd:=Ycv d
 have hdl:=Ydy l
 rcases Yax hc with rfl | rfl | ⟨ns,rfl,rfl⟩
 ·rw[toPy]at h3 h4
  exact SeqAt.notIn_tuple_reads h3 h1 (by simpa [PyData.canLay0]using h4) h2 (by lia) ⟨.bl _,H,I,rfl,by rw[Ye3];exact q⟩
 ·rw[toPy]at h3 h4
  exact SeqAt.notIn_list_reads h3 h1 (by simpa [PyData.canLay0]using h4) h2 (by lia) ⟨.bl _,H,I,rfl,by rw[Ye3];exact q⟩
 ·rw[toPy,←Yiq]at h3 h4
  exact SeqAt.notIn_list_reads h3 h1 (by simpa [PyData.canLay0]using h4) h2 (by lia) ⟨.bl _,H,I,rfl,by rw[Ye3];exact q⟩
theorem Yqw{neg:Bool}:Ygt K (rInD K neg) (inM neg):=by
 intro x y dx dy b H G Q h s rx ry q
 unfold inM at h
 obtain⟨l,h1,h⟩:=qa h
 split at h
 ·cases h
  exact⟨dx,dy,l,rx.rp s,ry.rp s,h1,by assumption,q⟩
 ·cases h
theorem y6n(hu:X.A.units+64 < cLine)(ha:MC X a fa)(hb:MC X b fb)(hm:behindInMarks .In b=false:=by with_unfolding_all rfl):ME X (.Compare a [.In] [b] pos) (mB (b2 fa fb (inM false))):=Yj6 (Yzf hu) Yqw ha hb hm
theorem y6o(hu:X.A.units+64 < cLine)(ha:MC X a fa)(hb:MC X b fb)(hm:behindInMarks .In b=false:=by with_unfolding_all rfl):MT X (.Compare a [.In] [b] pos) (b2 fa fb (inM false)):=Yhz (Yzf hu) Yqw ha hb hm
theorem y3u(hu:X.A.units+64 < cLine)(ha:MC X a fa)(hb:MC X b fb)(hm:behindInMarks .NotIn b=false:=by with_unfolding_all rfl):MT X (.Compare a [.NotIn] [b] pos) (b2 fa fb (inM true)):=Yhz (Yva hu) Yqw ha hb hm
end
end
section
variable {K:W.Frag}
section
variable {X:Cx} {a b c e:Expr} {es:List Expr} {fa fb f:Ro→Option D} {fc fd:Ro→Option Bool} {ga:Ro→Option (List D)} {pos:Pos} {rest:List Expr}
noncomputable def truD:D→Option Bool
 | .non=>some false
 | .bl b=>some b
 | .int i=>some (i != 0)
 | .tup l=>some (!l.isEmpty)
 | .lst l=>some (!l.isEmpty)
 | .scr ns=>some (!ns.isEmpty)
 | .str _=>none
 | .dct _ _ _=>none
theorem y0p{d:D}{v:V}{k:Bool}{H G:Hp}(h:truD d=some k)(r:Ct X.K G H d v):TruV X.K v H k:=by
 cases d with
 | non=>rw[Ct]at r;subst r;cases h;rfl
 | bl b=>rw[Ct]at r;subst r;cases h;rfl
 | int i=>rw[Ct]at r;subst r;cases h;rfl
 | str x=>cases h
 | dct _ _ _=>cases h
 | tup l=>
   rw[Ct]at r
   obtain⟨a,xs,rfl,g,rl⟩:=r
   cases h
   refine .inr (.inl ⟨xs,.inl (.inl g.1),?_⟩)
   have:=rl.length
   cases l<;>cases xs<;>simp_all
 | lst l=>
   rw[Ct]at r
   obtain⟨a,xs,rfl,g,rl⟩:=r
   cases h
   refine .inl ⟨xs,.inl g,?_⟩
   have:=rl.length
   cases l<;>cases xs<;>simp_all
 | scr ns=>
   rw[Ct]at r
   obtain⟨a,rfl,g⟩:=r
   cases h
   refine .inl ⟨_,g,?_⟩
   cases ns<;>simp
theorem y3v(ha:MC X a fa)(he:∀whole,isTrue a X.env whole=(do let v ←whole;standAt a.pos;holding [v] (truthy v)):=by intro _;rfl):MT X a (b1 fa truD):=
 PT.imp (Yxk ha he) fun σ H Q hx_=>by
  obtain⟨ρ,k,H0,G0,G,e,s,h⟩:=hx_
  obtain⟨d,h1,h2⟩:=Yer e
  exact tCof.at h1 s fun v H1 G1 g1 r1 s1=>⟨k,y0p h2 r1,h H1 G1 g1⟩
noncomputable def andT(fc fd:Ro→Option Bool):Ro→Option Bool:=fun ρ=>(fc ρ).bind fun k=>if k=true then fd ρ else some false
noncomputable def orT(fc fd:Ro→Option Bool):Ro→Option Bool:=fun ρ=>(fc ρ).bind fun k=>if k=true then some true else fd ρ
noncomputable def notT(fc:Ro→Option Bool):Ro→Option Bool:=fun ρ=>(fc ρ).map (!·)
noncomputable abbrev MW(X:Cx)(e:Expr)(f:Ro→Option Bool):Prop:=PW X e (tTof X.K f)
theorem PW.imp{t t':TT}(h:PW X e t)(i:∀σ H Q,t' σ H Q→t σ H Q):PW X e t':=fun whole pins s σ H Q I hw=>h whole pins s σ H Q I (i σ H Q hw)
theorem y0q(ha:MT X a fc):MW X (.BoolOp .And [a] pos) fc:=Yzy ha
theorem y3w(ha:MT X a fc):MW X (.BoolOp .Or [a] pos) fc:=y2p ha
theorem y0r{σ:L2.St}{H:Hp}{Q:Bool→Hp→Prop}(h:tTof K (andT fc fd) σ H Q):tAnd (tTof K fc) (tTof K fd) σ H Q:=by
 obtain⟨ρ,k,H0,G0,G,e,s,h⟩:=h
 unfold andT at e
 obtain⟨k1,h1,e⟩:=qa e
 refine tTof.at h1 s fun H1 G1 g1 s1=>?_
 cases k1 with
 | true=>
   rw[if_pos rfl]at e ⊢
   exact tTof.at e s1 fun H2 G2 g2 _=>h H2 G2 (g1.trans g2)
 | false=>
   rw[if_neg qh]at e ⊢
   cases e
   exact h H1 G1 g1
theorem y3x{σ:L2.St}{H:Hp}{Q:Bool→Hp→Prop}(h:tTof K (orT fc fd) σ H Q):tOr (tTof K fc) (tTof K fd) σ H Q:=by
 obtain⟨ρ,k,H0,G0,G,e,s,h⟩:=h
 unfold orT at e
 obtain⟨k1,h1,e⟩:=qa e
 refine tTof.at h1 s fun H1 G1 g1 s1=>?_
 cases k1 with
 | false=>
   rw[if_neg qh]at e ⊢
   exact tTof.at e s1 fun H2 G2 g2 _=>h H2 G2 (g1.trans g2)
 | true=>
   rw[if_pos rfl]at e ⊢
   cases e
   exact h H1 G1 g1
theorem y3y(ha:MT X a fc)(hb:MW X (.BoolOp .And (b::rest) pos) fd):MW X (.BoolOp .And (a::b::rest) pos) (andT fc fd):=PW.imp (y2q ha hb) fun _ _ _ h=>y0r h
theorem y6p(ha:MT X a fc)(hb:MW X (.BoolOp .Or (b::rest) pos) fd):MW X (.BoolOp .Or (a::b::rest) pos) (orT fc fd):=PW.imp (y5w ha hb) fun _ _ _ h=>y3x h
theorem y3z(ha:MT X a fc):MT X (.UnaryOp .Not a pos) (notT fc):=PT.imp (y2r ha) fun σ H Q hx_=>by
 obtain⟨ρ,k,H0,G0,G,e,s,h⟩:=hx_
 obtain⟨k1,h1,rfl⟩:=qb e
 exact tTof.at h1 s fun H1 G1 g1 _=>h H1 G1 g1
noncomputable def blD:D→Option Bool
 | .bl b=>some b
 | _=>none
theorem Ysi{d:D}{k:Bool}(h:blD d=some k):d=.bl k:=by cases d<;>simp[blD]at h;subst h;rfl
noncomputable def andV(fa fb:Ro→Option D):Ro→Option D:=fun ρ=>(b1 fa blD ρ).bind fun k=>if k=true then fb ρ else some (.bl false)
noncomputable def orV(fa fb:Ro→Option D):Ro→Option D:=fun ρ=>(b1 fa blD ρ).bind fun k=>if k=true then some (.bl true)else fb ρ
theorem y0s(ha:ME X a fa):ME X (.BoolOp .And [a] pos) fa:=Yy4 ha
theorem y30(ha:ME X a fa):ME X (.BoolOp .Or [a] pos) fa:=Yy4 ha
theorem y31(ha:ME X a fa)(hb:ME X (.BoolOp .And (b::rest) pos) fb):ME X (.BoolOp .And (a::b::rest) pos) (andV fa fb):=PE.imp (y2s ha hb) fun σ H Q hx_=>by
 obtain⟨ρ,d,H0,G0,G,e,s,h⟩:=hx_
 unfold andV at e
 obtain⟨k,h1,e⟩:=qa e
 obtain⟨d1,h2,h3⟩:=Yer h1
 cases Ysi h3
 refine tOf.at h2 s fun v H1 G1 g1 r1 s1=>⟨k,by rw[Rp]at r1;exact r1,?_⟩
 cases k with
 | true=>
   rw[if_pos rfl]at e ⊢
   exact tOf.at e s1 fun w H2 G2 g2 r2 _=>h w H2 G2 (g1.trans g2) r2
 | false=>
   rw[if_neg qh]at e ⊢
   cases e
   exact h _ H1 G1 g1 (by rw[Rp])
theorem y6q(ha:ME X a fa)(hb:ME X (.BoolOp .Or (b::rest) pos) fb):ME X (.BoolOp .Or (a::b::rest) pos) (orV fa fb):=PE.imp (y5y ha hb) fun σ H Q hx_=>by
 obtain⟨ρ,d,H0,G0,G,e,s,h⟩:=hx_
 unfold orV at e
 obtain⟨k,h1,e⟩:=qa e
 obtain⟨d1,h2,h3⟩:=Yer h1
 cases Ysi h3
 refine tOf.at h2 s fun v H1 G1 g1 r1 s1=>⟨k,by rw[Rp]at r1;exact r1,?_⟩
 cases k with
 | false=>
   rw[if_neg qh]at e ⊢
   exact tOf.at e s1 fun w H2 G2 g2 r2 _=>h w H2 G2 (g1.trans g2) r2
 | true=>
   rw[if_pos rfl]at e ⊢
   cases e
   exact h _ H1 G1 g1 (by rw[Rp])
noncomputable def Ylp:D→Bool
 | .non=>true
 | _=>false
theorem Ysj{d:D}{v:V}{G H:Hp}(r:Ct K G H d v):decide (v=V.non)=Ylp d:=by
 cases d with
 | non=>rw[Ct]at r;subst r;rfl
 | bl _=>rw[Ct]at r;subst r;rfl
 | int _=>rw[Ct]at r;subst r;rfl
 | str _=>rw[Ct]at r;obtain⟨rfl,_⟩:=r;rfl
 | tup _=>rw[Ct]at r;obtain⟨_,_,rfl,_⟩:=r;rfl
 | lst _=>rw[Ct]at r;obtain⟨_,_,rfl,_⟩:=r;rfl
 | scr _=>rw[Ct]at r;obtain⟨_,rfl,_⟩:=r;rfl
 | dct _ _ _=>rw[Ct]at r;obtain⟨_,_,_,rfl,_⟩:=r;rfl
noncomputable def isN(neg:Bool):D→D→Option Bool:=fun d e=>if Ylp e then some (if neg then !Ylp d else Ylp d)else none
theorem Yvb:Ygt K (fun x y H Q=>y=.non∧Q (.bl (decide (x=.non))) H) (isN false):=by
 intro x y dx dy b H G Q h s rx ry q
 unfold isN at h
 split at h
 ·rename_i hn
  cases h
  cases dy<;>simp[Ylp]at hn
  rw[Ct]at ry
  exact⟨ry,by rw[Ysj rx];exact q⟩
 ·cases h
theorem Ysk:Ygt K (fun x y H Q=>y=.non∧Q (.bl (!decide (x=.non))) H) (isN true):=by
 intro x y dx dy b H G Q h s rx ry q
 unfold isN at h
 split at h
 ·rename_i hn
  cases h
  cases dy<;>simp[Ylp]at hn
  rw[Ct]at ry
  exact⟨ry,by rw[Ysj rx];exact q⟩
 ·cases h
theorem y32(ha:MC X a fa)(hb:MC X b fb):ME X (.Compare a [.Is] [b] pos) (mB (b2 fa fb (isN false))):=Yj6 Yy7 Yvb ha hb (Yfz _)
theorem y0t(ha:MC X a fa)(hb:MC X b fb):ME X (.Compare a [.IsNot] [b] pos) (mB (b2 fa fb (isN true))):=Yj6 Yun Ysk ha hb (Yfz _)
theorem y33(ha:MC X a fa)(hb:MC X b fb):MT X (.Compare a [.Is] [b] pos) (b2 fa fb (isN false)):=Yhz Yy7 Yvb ha hb (Yfz _)
theorem y0u(ha:MC X a fa)(hb:MC X b fb):MT X (.Compare a [.IsNot] [b] pos) (b2 fa fb (isN true)):=Yhz Yun Ysk ha hb (Yfz _)
noncomputable def ixD:D→D→Option D
 | c,.int i=>(Yr c).bind fun l=>atI l i
 | _,_=>none
theorem Yvc{G:Hp}{l:List D}{xs:List V}{i:Int}{d:D}(r:RpL K G l xs)(h:atI l i=some d):∃x,atI xs i=some x∧Rp K G d x:=by
 unfold atI at h ⊢
 rw[r.length]
 obtain⟨j,h1,h2⟩:=qa h
 obtain⟨x,h3,h4⟩:=r.get h2
 exact⟨x,by rw[h1];exact h3,h4⟩
theorem y34:Sem2 X.K (rIx X.K) ixD:=by
 intro x y dx dy d H G Q h s rx ry q
 unfold ixD at h
 split at h
 ·rename_i c i
  obtain⟨l,h1,h2⟩:=qa h
  rw[Ct]at ry
  subst ry
  rcases Yax h1 with rfl | rfl | ⟨ns,rfl,rfl⟩
  ·rw[Ct]at rx
   obtain⟨p,xs,rfl,g,rl⟩:=rx
   obtain⟨v,h3,h4⟩:=Yvc rl h2
   exact .inr (.inl ⟨p,xs,i,v,rfl,rfl,.inl (.inl g.1),h3,q v H G (.refl s) h4⟩)
  ·rw[Ct]at rx
   obtain⟨p,xs,rfl,g,rl⟩:=rx
   obtain⟨v,h3,h4⟩:=Yvc rl h2
   exact .inl ⟨p,xs,i,v,rfl,rfl,.inl g,h3,q v H G (.refl s) h4⟩
  ·rw[Ct]at rx
   obtain⟨p,rfl,g⟩:=rx
   obtain⟨v,h3,h4⟩:=Yvc (G:=G) (K:=X.K) (.ints ns) h2
   exact .inl ⟨p,_,i,v,rfl,rfl,g,h3,q v H G (.refl s) h4⟩
 ·cases h
theorem Yvd(ha:MC X a fa)(hb:MC X b fb)(hs:Yin b:=by intro _ _;rfl):ME X (.Subscript a b pos) (b2 fa fb ixD):=y6g y3h y34 ha hb hs
noncomputable def intD:D→Option Int
 | .int i=>some i
 | _=>none
noncomputable def optI(f:Option (Ro→Option D)):Ro→Option (Option Int):=fun ρ=>match f with
 | none=>some none
 | some f=>(b1 f intD ρ).map some
noncomputable def cutD(l:List D)(lo hi:Option Int):List D:=(l.drop (HT.sIx l.length 0 lo)).take (HT.sIx l.length l.length hi - HT.sIx l.length 0 lo)
noncomputable def lstD:D→Option (List D)
 | .lst l=>some l
 | .scr ns=>some (ns.map D.int)
 | _=>none
theorem Yve{d:D}{l:List D}{v:V}{G H:Hp}(h:lstD d=some l)(r:Ct K G H d v):∃p xs,v=.ref p∧SqL K H p xs∧RpL K G l xs:=by
 cases d with
 | lst m=>
   cases h
   rw[Ct]at r
   obtain⟨p,xs,e,g,q⟩:=r
   exact⟨p,xs,e,.inl g,q⟩
 | scr ns=>
   cases h
   rw[Ct]at r
   obtain⟨p,e,g⟩:=r
   exact⟨p,_,e,g,.ints ns⟩
 | non=>cases h
 | bl _=>cases h
 | int _=>cases h
 | str _=>cases h
 | tup _=>cases h
 | dct _ _ _=>cases h
noncomputable def slF(fa:Ro→Option D)(lo hi:Option (Ro→Option D)):Ro→Option (List D):=fun ρ=>(b1 fa lstD ρ).bind fun l=>(optI lo ρ).bind fun i=>(optI hi ρ).bind fun j=>some (cutD l i j)
noncomputable abbrev tO(K:W.Frag)(f:Option (Ro→Option D)):TO:=match f with
 | none=>Yuy
 | some f=>y3e (tCof K f)
theorem Yxt{H0 G0 H G:Hp}{σ:L2.St}{ρ:Ro}{f:Option (Ro→Option D)}{i:Option Int}{Q:Option Int→Hp→Prop}(e:optI f ρ=some i)(s:SR K H0 G0 σ H G ρ)(h:∀H' G',Gr H G H' G'→SR K H0 G0 σ H' G' ρ→Q i H'):tO K f σ H Q:=by
 cases f with
 | none=>
   cases e
   exact h H G (.refl s.seen) s
 | some f=>
   obtain⟨k,h1,rfl⟩:=qb e
   obtain⟨d,h2,h3⟩:=Yer h1
   refine tCof.at h2 s fun v H1 G1 g1 r1 s1=>⟨k,?_,h H1 G1 g1 s1⟩
   cases d<;>simp[intD]at h3
   subst h3
   rw[Ct]at r1
   exact r1
theorem Yxu{lo hi:Option Expr}{fl fh:Option (Ro→Option D)}{p2:Pos}(ha:MC X a fa)(hl:PO X lo (tO X.K fl))(hh:PO X hi (tO X.K fh)):MF X (.Subscript a (.Slice lo hi none p2) pos) (slF fa fl fh):=
 PE.imp (Ysb Yuz ha hl hh) fun σ H Q hx_=>by
  obtain⟨ρ,l,H0,G0,G,e,s,h⟩:=hx_
  unfold slF at e
  obtain⟨l0,h1,e⟩:=qa e
  obtain⟨i,h2,e⟩:=qa e
  obtain⟨j,h3,e⟩:=qa e
  cases e
  obtain⟨d,h4,h5⟩:=Yer h1
  refine tCof.at h4 s fun v H1 G1 g1 r1 s1=>Yxt h2 s1 fun H2 G2 g2 s2=>Yxt h3 s2 fun H3 G3 g3 s3=>?_
  have r3:=(r1.grow g2).grow g3
  obtain⟨p,xs,rfl,g,rl⟩:=Yve h5 r3
  refine⟨p,xs,rfl,g,fun q hq=>?_⟩
  have hq0:H q=none:=g1.h.free (g2.h.free (g3.h.free hq))
  have gg:=((g1.trans g2).trans g3).trans (Gr.hid (p:=q) s3.seen hq (.lst (cutV xs i j)))
  refine h q _ _ G3 gg hq0 (s3.seen.free hq) y0 ?_
  unfold cutD cutV
  rw[rl.length]
  exact(rl.drop _).take _
theorem y6r:PO X none (tO X.K none):=y0b
theorem y6s(h:MC X e f):PO X (some e) (tO X.K (some f)):=y0c h
noncomputable def lF(f:Ro→Option (List D)):Ro→Option D:=fun ρ=>(f ρ).map D.lst
theorem MF.me{g:Ro→Option (List D)}(h:MF X e g):ME X e (lF g):=PE.imp h fun σ H Q hx_=>by
 obtain⟨ρ,d,H0,G0,G,e,s,h⟩:=hx_
 obtain⟨l,h1,rfl⟩:=qb e
 exact⟨ρ,l,H0,G0,G,h1,s,fun p xs H' G' g hp gp e' r=>h _ H' _ (g.show hp gp e') (by
  rw[Rp]
  refine⟨p,xs,rfl,.inl y0,r.mono fun b o q=>?_⟩
  rw[y4 (y3 q gp)];exact q)⟩
noncomputable def aNil:Ro→Option (List D):=fun _=>some []
noncomputable def Yh(f:Ro→Option D)(g:Ro→Option (List D)):Ro→Option (List D):=fun ρ=>(f ρ).bind fun d=>(g ρ).map (d::·)
theorem Yvf:MA X [] aNil:=PA.imp Yme fun σ H Q hx_=>by
 obtain⟨ρ,l,H0,G0,G,e,s,h⟩:=hx_
 cases e
 exact h [] H G (.refl s.seen) .nil
theorem Yqx(ha:ME X e f)(hr:MA X es ga)(hs:starEach (e::es) X.env=(false,eval e X.env)::starEach es X.env:=by rfl):MA X (e::es) (Yh f ga):=PA.imp (Yg7 ha hr hs) fun σ H Q hx_=>by
 obtain⟨ρ,l,H0,G0,G,e,s,h⟩:=hx_
 unfold Yh at e
 obtain⟨d,h1,e⟩:=qa e
 obtain⟨l',h2,rfl⟩:=qb e
 exact tOf.at h1 s fun v H1 G1 g1 r1 s1=>tAof.at h2 s1 fun vs H2 G2 g2 r2 _=>h (v::vs) H2 G2 (g1.trans g2) (.cons (r1.mono g2.g) r2)
theorem Yqy:MCA X [] aNil:=PA.imp Yme fun σ H Q hx_=>by
 obtain⟨ρ,l,H0,G0,G,e,s,h⟩:=hx_
 cases e
 exact h [] H G (.refl s.seen) rfl
theorem Ynb(ha:MC X e f)(hr:MCA X es ga)(hs:starEach (e::es) X.env=(false,eval e X.env)::starEach es X.env:=by rfl):MCA X (e::es) (Yh f ga):=PA.imp (Yg7 ha hr hs) fun σ H Q hx_=>by
 obtain⟨ρ,l,H0,G0,G,e,s,h⟩:=hx_
 unfold Yh at e
 obtain⟨d,h1,e⟩:=qa e
 obtain⟨l',h2,rfl⟩:=qb e
 exact tCof.at h1 s fun v H1 G1 g1 r1 s1=>tCAof.at h2 s1 fun vs H2 G2 g2 r2 _=>h (v::vs) H2 G2 (g1.trans g2) ⟨v,vs,rfl,r1.grow g2,r2⟩
noncomputable def cap6:Nat:=1000000
theorem Yir{n:Nat}(h:n≤cap6):n≤sizeLine:=Qf h (by rw[sizeLine_eq];decide)
noncomputable def dTup(ga:Ro→Option (List D)):Ro→Option D:=fun ρ=>(ga ρ).bind fun l=>if l.length≤cap6 then some (.tup l)else none
theorem y35{x1}(h:MA X es ga):ME X (.Tuple es x1 pos) (dTup ga):=PE.imp (y28 h) fun σ H Q hx_=>by
 obtain⟨ρ,d,H0,G0,G,e,s,h⟩:=hx_
 unfold dTup at e
 obtain⟨l,h1,e⟩:=qa e
 split at e
 ·cases e
  refine tAof.at h1 s fun vs H1 G1 g1 r1 s1=>⟨by rw[r1.length];exact Yir (by assumption),fun p hp=>?_⟩
  refine h _ _ _ (g1.trans (.new s1.seen hp (.tup vs))) ?_
  rw[Rp]
  exact⟨p,vs,rfl,y0,r1.mono (Gr.new s1.seen hp (.tup vs)).g⟩
 ·cases e
noncomputable def dLst(ga:Ro→Option (List D)):Ro→Option (List D):=fun ρ=>(ga ρ).bind fun l=>if l.length≤cap6 then some l else none
theorem Yzg(h:MA X es ga):MF X (.List es pos) (dLst ga):=PE.imp (y29 h) fun σ H Q hx_=>by
 obtain⟨ρ,d,H0,G0,G,e,s,h⟩:=hx_
 unfold dLst at e
 obtain⟨l,h1,e⟩:=qa e
 split at e
 ·cases e
  refine tAof.at h1 s fun vs H1 G1 g1 r1 s1=>⟨by rw[r1.length];exact Yir (by assumption),fun p hp=>?_⟩
  exact h p vs _ G1 (g1.trans (.hid s1.seen hp (.lst vs))) (g1.h.free hp) (s1.seen.free hp) y0 r1
 ·cases e
noncomputable def cC(ga:Ro→Option (List D))(g:List D→Option D):Ro→Option D:=fun ρ=>(ga ρ).bind g
noncomputable def cF(ga:Ro→Option (List D))(g:List D→Option (List D)):Ro→Option (List D):=fun ρ=>(ga ρ).bind g
theorem Yzh{r:List V→Hp→VK→Prop}{g:List D→Option D}(hr:SemC K r g){σ:L2.St}{H:Hp}{Q:VK}(h:tOf K (cC ga g) σ H Q):tCB r (tCAof K ga) σ H Q:=by
 obtain⟨ρ,d,H0,G0,G,e,s,h⟩:=h
 unfold cC at e
 obtain⟨l,h1,h2⟩:=qa e
 exact tCAof.at h1 s fun vs H1 G1 g1 r1 s1=>hr vs l d H1 G1 Q h2 s1.seen r1 fun v H' G' g2 r2=>h v H' G' (g1.trans g2) r2
theorem Yvg{r:List V→Hp→VK→Prop}{g:List D→Option (List D)}(hr:SemF K r g){σ:L2.St}{H:Hp}{Q:VK}(h:tFof K (cF ga g) σ H Q):tCB r (tCAof K ga) σ H Q:=by
 obtain⟨ρ,d,H0,G0,G,e,s,h⟩:=h
 unfold cF at e
 obtain⟨l,h1,h2⟩:=qa e
 exact tCAof.at h1 s fun vs H1 G1 g1 r1 s1=>hr vs l d H1 G1 Q h2 s1.seen r1 fun p xs H' G' g2 hp gp e' r2=>h p xs H' G' (g1.trans g2) (g1.h.free hp) gp e' r2
section
variable {x:Str} {p:Pos} {id T:String} {r:List V→Hp→VK→Prop} {g:List D→Option D} {gf:List D→Option (List D)}
theorem Yxv(hc:Ydx X (.builtin id) r)(hr:SemC X.K r g)(hg:Gl X x)(hm:X.mg x=none)(hv:bootBuiltins x=some (.builtin id))(ha:MCA X (e::es) ga)(hn:x≠"__name__":=by decide)(hdb:(x==("__debug__":Str))=false:=by decide)
 (he:starEach (e::es) X.env=(false,eval e X.env)::starEach es X.env:=by rfl) (hpl:(backTo pos (starEach es X.env)).any (·.1)=false:=by rfl):ME X (.Call (.Name x p) (e::es) [] pos) (cC ga g):=
 PE.imp (Yjt hc hg hm hv ha hn hdb he hpl) fun _ _ _ h=>Yzh hr h
theorem Yxw(hc:Ydx X (.builtin id) r)(hr:SemF X.K r gf)(hg:Gl X x)(hm:X.mg x=none)(hv:bootBuiltins x=some (.builtin id))(ha:MCA X (e::es) ga)(hn:x≠"__name__":=by decide)(hdb:(x==("__debug__":Str))=false:=by decide)
 (he:starEach (e::es) X.env=(false,eval e X.env)::starEach es X.env:=by rfl) (hpl:(backTo pos (starEach es X.env)).any (·.1)=false:=by rfl):MF X (.Call (.Name x p) (e::es) [] pos) (cF ga gf):=
 PE.imp (Yjt hc hg hm hv ha hn hdb he hpl) fun _ _ _ h=>Yvg hr h
theorem Yvh(hc:Ydx X (.type T) r)(hr:SemC X.K r g)(hg:Gl X x)(hm:X.mg x=none)(hv:bootBuiltins x=some (.type T))(ha:MCA X (e::es) ga)(hn:x≠"__name__":=by decide)(hdb:(x==("__debug__":Str))=false:=by decide)
 (he:starEach (e::es) X.env=(false,eval e X.env)::starEach es X.env:=by rfl) (hpl:(backTo pos (starEach es X.env)).any (·.1)=false:=by rfl):ME X (.Call (.Name x p) (e::es) [] pos) (cC ga g):=
 PE.imp (Yhv hc hg hm hv ha hn hdb he hpl) fun _ _ _ h=>Yzh hr h
theorem Yvi(hc:Ydx X (.type T) r)(hr:SemF X.K r gf)(hg:Gl X x)(hm:X.mg x=none)(hv:bootBuiltins x=some (.type T))(ha:MCA X (e::es) ga)(hn:x≠"__name__":=by decide)(hdb:(x==("__debug__":Str))=false:=by decide)
 (he:starEach (e::es) X.env=(false,eval e X.env)::starEach es X.env:=by rfl) (hpl:(backTo pos (starEach es X.env)).any (·.1)=false:=by rfl):MF X (.Call (.Name x p) (e::es) [] pos) (cF ga gf):=
 PE.imp (Yhv hc hg hm hv ha hn hdb he hpl) fun _ _ _ h=>Yvg hr h
end
noncomputable def spOf(K:W.Frag)(n:Nat)(fn:List D→Option D):Sp:=fun vs H Q _=>vs.length=n∧∃ds d G,Same G H∧RpL K G ds vs∧fn ds=some d∧∀v H' G',Gr H G H' G'→Rp K G' d v→Q v H'
theorem y0v{k n:Nat}{fa':Addr}{fd':FuncData}{ps:List Str}{x:Str}{p:Pos}{fn:List D→Option D}(F:FnOk X.prog X.w X.K X.mg X.base CX0 k fa' fd' ps (spOf X.K n fn))(hr:Room k X.A)(hg:Gl X x)(hm:X.mg x=some (.ref fa'))(hk:W.keepIn X.K (.ref fa')=true)(hb:Binds X.K fd' ps [])
 (ha:MA X (e::es) ga) (hdb:(x==("__debug__":Str))=false:=by decide) (he:starEach (e::es) X.env=(false,eval e X.env)::starEach es X.env:=by rfl) (hpl:(backTo pos (starEach es X.env)).any (·.1)=false:=by rfl)
 (hl:∀ρ l,ga ρ=some l→l.length=n):ME X (.Call (.Name x p) (e::es) [] pos) (cC ga fn):=
 PE.imp (Yz8 (E:=E0) F hr hg hm hk hb .nil y6e ha hdb he hpl) fun σ H Q hx_=>by
  obtain⟨ρ,d,H0,G0,G,e,s,h⟩:=hx_
  unfold cC at e
  obtain⟨l,h1,h2⟩:=qa e
  refine tAof.at h1 s fun vs H1 G1 g1 r1 s1=>?_
  rw[List.append_nil]
  exact⟨by rw[r1.length];exact hl ρ l h1,l,d,G1,s1.seen,r1,h2,fun v H' G' g2 r2=>h v H' G' (g1.trans g2) r2⟩
theorem Yo{ρ:Ro}{l:List D}(h:aNil ρ=some l):l.length=0:=by cases h;rfl
theorem Yc{f:Ro→Option D}{g:Ro→Option (List D)}{n:Nat}(hg:∀ρ l,g ρ=some l→l.length=n):∀ρ l,Yh f g ρ=some l→l.length=n+1:=fun ρ l h=>by
 unfold Yh at h
 obtain⟨d,h1,e⟩:=qa h
 obtain⟨l',h2,rfl⟩:=qb e
 rw[qq,hg ρ l' h2]
noncomputable def lenC:List D→Option D
 | [c]=>(Yr c).map fun l=>.int l.length
 | _=>none
theorem Yvj{G H:Hp}{c:D}{l:List D}{v:V}(h:Yr c=some l)(r:Ct K G H c v):∃p xs,v=.ref p∧(SqL K H p xs∨SqT K H p xs)∧RpL K G l xs:=by
 rcases Yax h with rfl | rfl | ⟨ns,rfl,rfl⟩
 ·rw[Ct]at r
  obtain⟨p,xs,rfl,g,rl⟩:=r
  exact⟨p,xs,rfl,.inr (.inl (.inl g.1)),rl⟩
 ·rw[Ct]at r
  obtain⟨p,xs,rfl,g,rl⟩:=r
  exact⟨p,xs,rfl,.inl (.inl g),rl⟩
 ·rw[Ct]at r
  obtain⟨p,rfl,g⟩:=r
  exact⟨p,_,rfl,.inl g,.ints ns⟩
theorem Yhb{G:Hp}{d:D}{vs:List V}(h:RpL K G [d] vs):∃v,vs=[v]∧Rp K G d v:=by
 rw[RpL]at h
 obtain⟨x,r,rfl,h1,h2⟩:=h
 rw[RpL]at h2
 subst h2
 exact⟨x,rfl,h1⟩
theorem Yes{G H:Hp}{d:D}{vs:List V}(h:CtL K G H [d] vs):∃v,vs=[v]∧Ct K G H d v:=by
 obtain⟨x,r,rfl,h1,h2⟩:=h
 cases (show r=[] from h2)
 exact⟨x,rfl,h1⟩
theorem Ych:SemC X.K (fun xs H Q=>∃p ys,xs=[.ref p]∧(SqL X.K H p ys∨SqT X.K H p ys)∧Q (.int ys.length) H) lenC:=by
 intro vs ds d H G Q h s r q
 match ds,h,r with
 | [c],h,r=>
   obtain⟨l,h1,rfl⟩:=qb h
   obtain⟨v,rfl,rv⟩:=Yes r
   obtain⟨p,xs,rfl,h2,rl⟩:=Yvj (K:=X.K) h1 rv
   exact⟨p,xs,rfl,h2,q _ H G (.refl s) (by rw[Rp,rl.length])⟩
noncomputable def Yfe:List D→Option (List D)
 | [c]=>Yr c
 | _=>none
theorem Yci:SemF X.K (fun xs H Q=>∃p ys,xs=[.ref p]∧(SqL X.K H p ys∨SqT X.K H p ys)∧∀l,H l=none→Q (.ref l) (upd H l (.lst ys))) Yfe:=by
 intro vs ds l H G Q h s r q
 match ds,h,r with
 | [c],h,r=>
   obtain⟨v,rfl,rv⟩:=Yes r
   obtain⟨p,xs,rfl,h2,rl⟩:=Yvj (K:=X.K) h rv
   exact⟨p,xs,rfl,h2,fun m hm=>q m xs _ G (.hid s hm _) hm (s.free hm) y0 rl⟩
noncomputable def tupC:List D→Option D
 | [c]=>(Yr c).map D.tup
 | _=>none
theorem Ycj:SemC X.K (fun xs H Q=>∃p ys,xs=[.ref p]∧((SqL X.K H p ys∧∀l,H l=none→Q (.ref l) (upd H l (.tup ys)))∨(SqT X.K H p ys∧Q (.ref p) H))) tupC:=by
 intro vs ds d H G Q h s r q
 match ds,h,r with
 | [c],h,r=>
   obtain⟨l,h1,rfl⟩:=qb h
   obtain⟨v,rfl,rv⟩:=Yes r
   rcases Yax h1 with rfl | rfl | ⟨ns,rfl,rfl⟩
   ·rw[Ct]at rv
    obtain⟨p,xs,rfl,g,rl⟩:=rv
    exact⟨p,xs,rfl,.inr ⟨.inl (.inl g.1),q _ H G (.refl s) (by rw[Rp];exact⟨p,xs,rfl,g.2,rl⟩)⟩⟩
   ·rw[Ct]at rv
    obtain⟨p,xs,rfl,g,rl⟩:=rv
    refine⟨p,xs,rfl,.inl ⟨.inl g,fun m hm=>q _ _ _ (.new s hm (.tup xs)) ?_⟩⟩
    rw[Rp]
    exact⟨m,xs,rfl,y0,rl.mono (Gr.new s hm (.tup xs)).g⟩
   ·rw[Ct]at rv
    obtain⟨p,rfl,g⟩:=rv
    refine⟨p,_,rfl,.inl ⟨g,fun m hm=>q _ _ _ (.new s hm (.tup _)) ?_⟩⟩
    rw[Rp]
    exact⟨m,_,rfl,y0,.ints ns⟩
noncomputable def intC:List D→Option D
 | [.int i]=>some (.int i)
 | [.bl k]=>some (.int (if k then 1 else 0))
 | _=>none
theorem y0w:SemC X.K (fun xs H Q=>(∃i,xs=[.int i]∧Q (.int i) H)∨∃k,xs=[.bl k]∧Q (.int (if k then 1 else 0)) H) intC:=by
 intro vs ds d H G Q h s r q
 match ds,h,r with
 | [.int i],h,r=>
   cases h
   obtain⟨v,rfl,rv⟩:=Yes r
   rw[Ct]at rv
   subst rv
   exact .inl ⟨i,rfl,q _ H G (.refl s) (by rw[Rp])⟩
 | [.bl k],h,r=>
   cases h
   obtain⟨v,rfl,rv⟩:=Yes r
   rw[Ct]at rv
   subst rv
   exact .inr ⟨k,rfl,q _ H G (.refl s) (by rw[Rp])⟩
end
end
section
variable {K:W.Frag}
section
variable {X:Cx} {e:Expr} {f:Ro→Option D} {gl:Ro→Option (List D)} {pos pos':Pos} {st:Stmt} {sts:List Stmt} {fs gs:Ro→Option Out}
noncomputable def sNil:Ro→Option Out:=fun ρ=>some (.nx ρ)
noncomputable def sSeq(f g:Ro→Option Out):Ro→Option Out:=fun ρ=>(f ρ).bind fun
 | .nx ρ'=>g ρ'
 | o=>some o
theorem y36:MB X [] sNil:=PSs.imp Yzz fun F σ H hx_=>by
 obtain⟨ρ,out,H0,G0,G,e,s,h⟩:=hx_
 cases e
 exact h σ H G s
theorem y0x(h1:MS X st fs)(h2:MB X sts gs):MB X (st::sts) (sSeq fs gs):=PSs.imp (Yxh h1 h2) fun F σ H hx_=>by
 obtain⟨ρ,out,H0,G0,G,e,s,h⟩:=hx_
 unfold sSeq at e
 obtain⟨o,h3,e⟩:=qa e
 cases o with
 | nx ρ'=>exact⟨ρ,.nx ρ',H0,G0,G,h3,s,fun σ' H' G' s'=>⟨ρ',out,H0,G0,G',e,s',h⟩⟩
 | rt d=>cases e;exact⟨ρ,.rt d,H0,G0,G,h3,s,h⟩
 | bk ρ'=>cases e;exact⟨ρ,.bk ρ',H0,G0,G,h3,s,h⟩
 | ct ρ'=>cases e;exact⟨ρ,.ct ρ',H0,G0,G,h3,s,h⟩
theorem y37(h1:MS X st fs):MB X [st] fs:=Yz0 h1
noncomputable def frz1(i:Nat)(ρ:Ro):Ro:=match ρ[i]? with
 | some (some (B.ow l))=>ρ.set i (some (.sh (.lst l)))
 | some (some (B.od t ks vs))=>ρ.set i (some (.sh (.dct t ks vs)))
 | _=>ρ
theorem SR.frz1{H0 G0 H G:Hp}{σ:L2.St}{ρ:Ro}(s:SR K H0 G0 σ H G ρ)(i:Nat):∃G',SR K H0 G0 σ H G' (M.frz1 i ρ):=by
 unfold M.frz1
 split
 ·rename_i l hl
  exact s.freeze hl
 ·rename_i t ks vs hl
  exact s.freezed hl
 ·exact⟨G,s⟩
noncomputable def frz(is:List Nat)(ρ:Ro):Ro:=is.foldl (fun r i=>frz1 i r) ρ
theorem SR.frz{H0 G0 H:Hp}{σ:L2.St}:∀(is:List Nat) {G:Hp} {ρ:Ro},SR K H0 G0 σ H G ρ→∃G',SR K H0 G0 σ H G' (M.frz is ρ)
 | [],G,_,s=>⟨G,s⟩
 | i::is,_,ρ,s=>by
   obtain⟨G',s'⟩:=s.frz1 i
   exact SR.frz is s'
noncomputable def wF(is:List Nat)(f:Ro→Option Out):Ro→Option Out:=fun ρ=>f (frz is ρ)
theorem y38(is:List Nat)(h:MS X st fs):MS X st (wF is fs):=PS.imp h fun F σ H hx_=>by
 obtain⟨ρ,out,H0,G0,G,e,s,h⟩:=hx_
 obtain⟨G',s'⟩:=SR.frz is s
 exact⟨frz is ρ,out,H0,G0,G',e,s',h⟩
noncomputable def sSet(i:Nat)(f:Ro→Option D):Ro→Option Out:=fun ρ=>(f ρ).map fun d=>.nx (ρ.set i (some (.sh d)))
noncomputable def sOwn(i:Nat)(f:Ro→Option (List D)):Ro→Option Out:=fun ρ=>(f ρ).map fun l=>.nx (ρ.set i (some (.ow l)))
theorem y39{i:Nat}{F:Ends}{σ:L2.St}{H:Hp}(h:sOf K (sSet i f) F σ H):tAsg (tOf K f) (Ys8 i) F σ H:=by
 obtain⟨ρ,out,H0,G0,G,e,s,h⟩:=h
 obtain⟨d,h1,rfl⟩:=qb e
 exact tOf.at h1 s fun v H1 G1 g1 r1 s1=>h _ H1 G1 (s1.set_sh i r1)
theorem y4a{i:Nat}{F:Ends}{σ:L2.St}{H:Hp}(h:sOf K (sOwn i gl) F σ H):tAsg (tFof K gl) (Ys8 i) F σ H:=by
 obtain⟨ρ,out,H0,G0,G,e,s,h⟩:=h
 obtain⟨l,h1,rfl⟩:=qb e
 exact⟨ρ,l,H0,G0,G,h1,s,fun p xs H' G' g hp gp e' r=>h _ H' G' (s.set_ow i g hp gp e' r)⟩
theorem Yzi(i:Nat){x:Str}(hN:X.N.Nodup)(he:ME X e f)(hi:X.N[i]?=some x:=by rfl)(hx:Loc X.env.scope x:=by first | exact Or.inl rfl | exact Or.inr rfl)(hs:swapsWith e (some (.Name x pos')) pos.line X.env=pure false:=by rfl)
 (hf:X.fn x=true∨X.env.scope.names.lookup x=some .local:=by first | exact .inl rfl | exact .inr rfl):MS X (.Assign [.Name x pos'] e pos) (sSet i f):=PS.imp (Yui hN hi hx he hs hf) fun _ _ _ h=>y39 h
theorem y4b(i:Nat){x:Str}(hN:X.N.Nodup)(he:MF X e gl)(hi:X.N[i]?=some x:=by rfl)(hx:Loc X.env.scope x:=by first | exact Or.inl rfl | exact Or.inr rfl)(hs:swapsWith e (some (.Name x pos')) pos.line X.env=pure false:=by rfl)
 (hf:X.fn x=true∨X.env.scope.names.lookup x=some .local:=by first | exact .inl rfl | exact .inr rfl):MS X (.Assign [.Name x pos'] e pos) (sOwn i gl):=PS.imp (Yui hN hi hx he hs hf) fun _ _ _ h=>y4a h
noncomputable def sRet(f:Ro→Option D):Ro→Option Out:=fun ρ=>(f ρ).map .rt
theorem y4c(he:ME X e f):MS X (.Return (some e) pos) (sRet f):=PS.imp (y2t he) fun F σ H hx_=>by
 obtain⟨ρ,out,H0,G0,G,e,s,h⟩:=hx_
 obtain⟨d,h1,rfl⟩:=qb e
 exact tOf.at h1 s fun v H1 G1 g1 r1 s1=>h v H1 G1 s1.gr r1
noncomputable def sIf(c:Ro→Option Bool)(f g:Ro→Option Out):Ro→Option Out:=fun ρ=>(c ρ).bind fun k=>if k=true then f ρ else g ρ
theorem y6t{c:Expr}{a b:List Stmt}{fc:Ro→Option Bool}(hc:MT X c fc)(ha:MB X a fs)(hb:MB X b gs):MS X (.If c a b pos) (sIf fc fs gs):=PS.imp (y51 hc ha hb) fun F σ H hx_=>by
 obtain⟨ρ,out,H0,G0,G,e,s,h⟩:=hx_
 unfold sIf at e
 obtain⟨k,h1,e⟩:=qa e
 refine tTof.at h1 s fun H1 G1 g1 s1=>?_
 cases k with
 | true=>
   rw[if_pos rfl]at e ⊢
   exact⟨ρ,out,H0,G0,G1,e,s1,h⟩
 | false=>
   rw[if_neg qh]at e ⊢
   exact⟨ρ,out,H0,G0,G1,e,s1,h⟩
noncomputable def sMut(i:Nat)(f:Ro→Option D)(g:List D→D→Option (List D)):Ro→Option Out:=fun ρ=>(getO i ρ).bind fun l=>(f ρ).bind fun d=>(g l d).map fun l'=>.nx (ρ.set i (some (.ow l')))
theorem y4d{H0 G0 H G:Hp}{σ:L2.St}{ρ:Ro}{i:Nat}{l:List D}(s:SR K H0 G0 σ H G ρ)(h:getO i ρ=some l):∃a xs,σ[i]?=some (some (V.ref a))∧H a=some (.lst xs)∧RpL K G l xs∧G a=none:=by
 obtain⟨a,xs,h1,h2,h3,h4,h5⟩:=s.ow i l (Yo4 h)
 exact⟨a,xs,h1,h4,h5,h2⟩
noncomputable def appD(l:List D)(d:D):Option (List D):=if l.length < cap6 then some (l++[d])else none
theorem Yvk(i:Nat){x:Str}{p2 apos cpos:Pos}(he:ME X e f)(hN:X.N[i]?=some x:=by rfl)(hv:Vis X.env.scope x:=by first | exact Or.inl rfl | exact Or.inr (Or.inl rfl) | exact Or.inr (Or.inr rfl))
 (hd:(x==("__debug__":Str))=false:=by decide) (hcd:(x==("__classdict__":Str))=false:=by decide) (hse:swapsWith (.Call (.Attribute (.Name x p2) "append" apos) [e] [] cpos) none pos.line X.env=pure false:=by rfl)
 (hs:starEach [e] X.env=[(false,eval e X.env)]:=by rfl)
 (hfew:((backTo cpos (starEach [e] X.env)).all (fun x=>!x.1)&&(backToKw cpos (keywordEach [] X.env)).all (fun x=>x.1.isSome)&&decide ([e].length+([]:List Keyword).length+(if ([]:List Keyword).isEmpty then 0 else 1) < 30))=true:=by rfl)
 (hline:(apos.endLine==cpos.line)=true:=by rfl) (hbase:attributeBase (.Name x p2) "append" X.env (eval (.Name x p2) X.env)=eval (.Name x p2) X.env:=by rfl) :
 MS X (.Expr (.Call (.Attribute (.Name x p2) "append" apos) [e] [] cpos) pos) (sMut i f appD):=
 PS.imp (Yz1 (y3j PySem.F.plainAttrs_list PySem.F.slot_list_append PySem.F.type_list_append Yow (Yr6 hN hv hd hcd) (Yg7 he Yme hs) hbase hfew hline hs rfl) hse) fun F σ H hx_=>by
  obtain⟨ρ,out,H0,G0,G,e,s,h⟩:=hx_
  unfold sMut at e
  obtain⟨l,h1,e⟩:=qa e
  obtain⟨d,h2,e⟩:=qa e
  obtain⟨l',h3,rfl⟩:=qb e
  unfold appD at h3
  split at h3
  ·rename_i hl
   cases h3
   obtain⟨a,xs,ha,hH,hr,hG⟩:=y4d s h1
   refine⟨_,ha,.inl ⟨rfl,xs,SqL.of hH⟩,tOf.at h2 s fun v H1 G1 g1 r1 s1=>?_⟩
   refine⟨a,xs,v,rfl,rfl,g1.h _ _ hH,?_,h σ _ G1 (s1.mut (Yo4 h1) ha ((hr.mono g1.g).append (.one r1)))⟩
   rw[hr.length]
   exact Qh hl (Yir (qt _))
  ·cases h3
theorem Yxx{J:It}{G':Hp}{ds:List D}(hz:ds.length≤sizeLine)(h:∀(i:Nat) H2 G2,Same G' G2→Same G2 H2→(∀d,ds[i]?=some d→J.go i H2∧∀y H3,J.yld i H2 y H3→H3=H2∧Rp K G2 d y)∧(ds.length≤i→J.stop i H2)):Wk K J G' ds:=
 ⟨hz,fun i H2 G2 s1 s2=>⟨fun d hd=>⟨((h i H2 G2 s1 s2).1 d hd).1,fun y H3 q=>by
  obtain⟨rfl,r⟩:=((h i H2 G2 s1 s2).1 d hd).2 y H3 q
  exact⟨G2,.refl s2,r⟩⟩,(h i H2 G2 s1 s2).2⟩⟩
variable {tg:Expr}
noncomputable def iSeq(K:W.Frag)(tl:TE):TI:=fun σ H R=>tl σ H fun x H1=>∃a xs,x=.ref a∧((SqL K H1 a xs∧(xs.length≤sizeLine→R (Itl K a) H1))∨(SqT K H1 a xs∧(xs.length≤sizeLine→R (Itt K a) H1)))
theorem y4e{l:Expr}{tl:TE}(hl:PE X l tl):PI X tg l (iSeq X.K tl):=by
 intro pins s σ H R I h
 refine thn (hl pins s σ H _ I h) fun v s1 hx_=>?_
 obtain⟨x,H1,I1,r1,q1⟩:=hx_
 obtain⟨a,xs,e,q1⟩:=q1
 subst e
 cases r1
 rcases q1 with⟨hq,q⟩ | ⟨hq,q⟩
 ·obtain⟨its,rv,p,hz⟩:=I1.list hq
  refine wpAny_pyIter_list p.isList ?_
  refine⟨s1.heap.objs.size,[s1.heap.objs.size],_,_,H1,rfl,I1.kept (t':=s1.toks) fun b o e=>qd _ e,Yuj a _,⟨_,qo _ rfl,rfl,rfl⟩,fun b hb=>?_,q hz⟩
  have e:b=s1.heap.objs.size:=by simpa using hb
  subst e
  exact I1.fpOk (qt _) (I1.hok.fresh (qt _))
 ·obtain⟨its,rv,p,hz⟩:=I1.tuple hq
  refine wpAny_pyIter_tuple (show s1.heap.IsTuple a its.toArray from p) ?_
  refine⟨s1.heap.objs.size,[s1.heap.objs.size],_,_,H1,rfl,I1.kept (t':=s1.toks) fun b o e=>qd _ e,Ys9 a _,⟨_,qo _ rfl,rfl,rfl⟩,fun b hb=>?_,q hz⟩
  have e:b=s1.heap.objs.size:=by simpa using hb
  subst e
  exact I1.fpOk (qt _) (I1.hok.fresh (qt _))
theorem y4f{l:Expr}(hl:ME X l f):MI X tg l (b1 f Yr):=PI.imp (y4e hl) fun σ H R hx_=>by
 obtain⟨ρ,ds,H0,G0,G,e,s,h⟩:=hx_
 obtain⟨c,h1,h2⟩:=Yer e
 refine tOf.at h1 s fun v H1 G1 g1 r1 s1=>?_
 rcases Yax h2 with rfl | rfl | ⟨ns,rfl,rfl⟩
 ·rw[Rp]at r1
  obtain⟨p,xs,rfl,g,rl⟩:=r1
  refine⟨p,xs,rfl,.inr ⟨.inl (.inl (s1.seen _ _ g)),fun hz=>h _ H1 G1 g1 (Yxx (by rw[←rl.length];exact hz) fun i H2 G2 e1 e2=>⟨fun d hd=>?_,fun hi=>⟨xs,.inl (.inl (e2 _ _ (e1 _ _ g))),by rw[rl.length];exact hi⟩⟩)⟩⟩
  obtain⟨x,hx,rx⟩:=rl.get hd
  refine⟨⟨xs,x,.inl (.inl (e2 _ _ (e1 _ _ g))),hx⟩,fun y H3 q=>⟨q.1,?_⟩⟩
  have:=q.2 xs (.inl (.inl (e2 _ _ (e1 _ _ g))))
  rw[hx]at this
  cases this
  exact rx.mono e1
 ·rw[Rp]at r1
  obtain⟨p,xs,rfl,g,rl⟩:=r1
  refine⟨p,xs,rfl,.inl ⟨.inl (Ybr s1.seen g),fun hz=>h _ H1 G1 g1 (Yxx (by rw[←rl.length];exact hz) fun i H2 G2 e1 e2=>⟨fun d hd=>?_,fun hi=>⟨xs,.inl (Ybr e2 (Ybr e1 g)),by rw[rl.length];exact hi⟩⟩)⟩⟩
  obtain⟨x,hx,rx⟩:=rl.get hd
  refine⟨⟨xs,x,.inl (Ybr e2 (Ybr e1 g)),hx⟩,fun y H3 q=>⟨q.1,?_⟩⟩
  have:=q.2 xs (.inl (Ybr e2 (Ybr e1 g)))
  rw[hx]at this
  cases this
  exact rx.mono e1
 ·rw[Rp]at r1
  obtain⟨p,rfl,g⟩:=r1
  have rl:RpL X.K G1 (ns.map D.int) (ns.map V.int):=.ints ns
  refine⟨p,_,rfl,.inl ⟨s1.seen.seq g,fun hz=>h _ H1 G1 g1 (Yxx (by rw[←rl.length];exact hz) fun i H2 G2 e1 e2=>⟨fun d hd=>?_,fun hi=>⟨_,e2.seq (e1.seq g),by rw[rl.length];exact hi⟩⟩)⟩⟩
  obtain⟨x,hx,rx⟩:=rl.get hd
  refine⟨⟨_,x,e2.seq (e1.seq g),hx⟩,fun y H3 q=>⟨q.1,?_⟩⟩
  have:=q.2 _ (e2.seq (e1.seq g))
  rw[hx]at this
  cases this
  exact rx.mono e1
noncomputable def rngD(a n:Int):List D:=(List.range (n - a).toNat).map fun i=>.int (a+(i:Nat))
theorem Yj8(a n:Int):(rngD a n).length=(n - a).toNat:=by simp[rngD]
theorem Yzj{a n:Int}{G':Hp}(hz:(n - a).toNat≤sizeLine):Wk K (Itr a (n - a).toNat) G' (rngD a n):=
 Yxx (by rw[Yj8];exact hz) fun i H2 G2 _ _=>⟨fun d hd=>by
  unfold rngD at hd
  rw[Qg]at hd
  obtain⟨j,h1,rfl⟩:=qb hd
  have hj:i < (n - a).toNat:=by
   have:=(qm h1).1
   simpa using this
  rw[List.getElem?_range hj]at h1
  cases h1
  exact⟨hj,fun y H3 q=>⟨q.1,by rw[Rp];exact q.2⟩⟩,fun hi=>by rw[Yj8]at hi;exact hi⟩
noncomputable def rng1:List D→Option (List D)
 | [.int n]=>if decide (-(cap6:Int)≤n)&&decide (n≤cap6)then some (rngD 0 n)else none
 | _=>none
noncomputable def rng2:List D→Option (List D)
 | [.int a,.int n]=>if decide (-(cap6:Int)≤a)&&decide (a≤cap6)&&decide (-(cap6:Int)≤n)&&decide (n≤cap6)then some (rngD a n)else none
 | _=>none
theorem Yvl{l ds:List D}(h:rng1 l=some ds):∃n:Int,l=[.int n]∧-1000000≤n∧n≤1000000∧ds=rngD 0 n:=by
 unfold rng1 at h
 split at h
 ·rename_i n
  split at h
  ·rename_i hc
   cases h
   simp only[Qd,decide_eq_true_eq]at hc
   have hcap:(cap6:Int)=1000000:=by decide
   exact⟨n,rfl,by lia,by lia,rfl⟩
  ·cases h
 ·cases h
theorem Yvm{l ds:List D}(h:rng2 l=some ds):∃a n:Int,l=[.int a,.int n]∧-1000000≤a∧a≤1000000∧-1000000≤n∧n≤1000000∧ds=rngD a n:=by
 unfold rng2 at h
 split at h
 ·rename_i a n
  split at h
  ·rename_i hc
   cases h
   simp only[Qd,decide_eq_true_eq]at hc
   have hcap:(cap6:Int)=1000000:=by decide
   exact⟨a,n,rfl,by lia,by lia,by lia,by lia,rfl⟩
  ·cases h
 ·cases h
theorem Yvn{a:Expr}{ga:Ro→Option (List D)}{p:Pos}(hg:Gl X "range")(hm:X.mg "range"=none)(ha:MA X [a] ga)(hs:starEach [a] X.env=[(false,eval a X.env)]:=by rfl):MI X tg (.Call (.Name "range" p) [a] [] pos) (cF ga rng1):=
 PI.imp (Yuk hg hm ha hs) fun σ H R hx_=>by
  obtain⟨ρ,ds,H0,G0,G,e,s,h⟩:=hx_
  unfold cF at e
  obtain⟨l,h1,h2⟩:=qa e
  refine tAof.at h1 s fun vs H1 G1 g1 r1 s1=>?_
  obtain⟨n,rfl,c1,c2,rfl⟩:=Yvl h2
  obtain⟨v,rfl,rv⟩:=Yhb r1
  rw[Rp]at rv
  subst rv
  refine⟨n,rfl,by lia,by lia,?_⟩
  have:=h (Itr 0 (n - 0).toNat) H1 G1 g1 (Yzj (Yir (by unfold cap6;lia)))
  simpa using this
theorem Yvo{a b:Expr}{ga:Ro→Option (List D)}{p:Pos}(hg:Gl X "range")(hm:X.mg "range"=none)(ha:MA X [a,b] ga)(hs:starEach [a,b] X.env=[(false,eval a X.env),(false,eval b X.env)]:=by rfl)(hs2:starEach [b] X.env=[(false,eval b X.env)]:=by rfl) :
 MI X tg (.Call (.Name "range" p) [a,b] [] pos) (cF ga rng2):=
 PI.imp (Yul hg hm ha hs hs2) fun σ H R hx_=>by
  obtain⟨ρ,ds,H0,G0,G,e,s,h⟩:=hx_
  unfold cF at e
  obtain⟨l,h1,h2⟩:=qa e
  refine tAof.at h1 s fun vs H1 G1 g1 r1 s1=>?_
  obtain⟨a,n,rfl,c1,c2,c3,c4,rfl⟩:=Yvm h2
  rw[RpL]at r1
  obtain⟨x,r,rfl,rx,r1⟩:=r1
  obtain⟨y,rfl,ry⟩:=Yhb r1
  rw[Rp]at rx ry
  subst rx;subst ry
  exact⟨a,n,rfl,⟨by lia,by lia,by lia,by lia⟩,h _ H1 G1 g1 (Yzj (Qf (by lia:(n - a).toNat≤2000000) (by rw[sizeLine_eq];decide)))⟩
noncomputable def gSet(i:Nat):D→Ro→Option Ro:=fun d ρ=>some (ρ.set i (some (.sh d)))
theorem y0y(i:Nat){x:Str}(hN:X.N.Nodup)(hi:X.N[i]?=some x:=by rfl)(hx:Loc X.env.scope x:=by first | exact Or.inl rfl | exact Or.inr rfl)(hf:X.fn x=true∨X.env.scope.names.lookup x=some .local:=by first | exact .inl rfl | exact .inr rfl):MG X (.Name x pos) (gSet i):=
 PG.imp (Yim hN hi hx hf) fun v σ H Q hx_=>by
  obtain⟨d,ρ,ρ',H0,G0,G,e,s,r,h⟩:=hx_
  cases e
  exact h _ (s.set_sh i r)
noncomputable def Yj9(i j:Nat):D→Ro→Option Ro:=fun d ρ=>match d with
 | .tup [a,b]=>some ((ρ.set i (some (.sh a))).set j (some (.sh b)))
 | _=>none
theorem y0z(i j:Nat){x y:Str}{px py:Pos}{k:Nat}(hc:X.calm=true)(hN:X.N.Nodup)(hi:X.N[i]?=some x:=by rfl)(hj:X.N[j]?=some y:=by rfl)(hx:Loc X.env.scope x:=by first | exact Or.inl rfl | exact Or.inr rfl)(hy:Loc X.env.scope y:=by first | exact Or.inl rfl | exact Or.inr rfl)
 (hf:X.fn x=true∨X.env.scope.names.lookup x=some .local:=by first | exact .inl rfl | exact .inr rfl) (hf2:X.fn y=true∨X.env.scope.names.lookup y=some .local:=by first | exact .inl rfl | exact .inr rfl):MG X (.Tuple [.Name x px,.Name y py] k pos) (Yj9 i j):=
 PG.imp (y2u (n:=2) hc (Yht (Yim hN hi hx hf) (Yht (Yim hN hj hy hf2) Yuh))) fun v σ H Q hx_=>by
  obtain⟨d,ρ,ρ',H0,G0,G,e,s,r,h⟩:=hx_
  match d,e,r with
  | .tup [a,b],e,r=>
    cases e
    rw[Rp]at r
    obtain⟨p,xs,rfl,g,rl⟩:=r
    rw[RpL]at rl
    obtain⟨u,us,rfl,ru,rl⟩:=rl
    obtain⟨w,rfl,rw'⟩:=Yhb rl
    exact⟨p,[u,w],rfl,.inl (.inl (s.seen _ _ g)),rfl,u,[w],rfl,w,[],rfl,rfl,h _ ((s.set_sh i ru).set_sh j rw')⟩
noncomputable def forM(gt:D→Ro→Option Ro)(fb:Ro→Option Out):List D→Ro→Option Out
 | [],ρ=>some (.nx ρ)
 | d::ds,ρ=>(gt d ρ).bind fun ρ1=>(fb ρ1).bind fun
   | .nx ρ2=>forM gt fb ds ρ2
   | .ct ρ2=>forM gt fb ds ρ2
   | .bk ρ2=>some (.nx ρ2)
   | .rt d=>some (.rt d)
noncomputable def sFor(gl:Ro→Option (List D))(gt:D→Ro→Option Ro)(fb:Ro→Option Out):Ro→Option Out:=fun ρ=>(gl ρ).bind fun ds=>forM gt fb ds ρ
theorem Yhc{gt:D→Ro→Option Ro}{fb:Ro→Option Out}:∀(ds:List D) (ρ:Ro) (out:Out),forM gt fb ds ρ=some out→(∃ρ',out=.nx ρ')∨∃d,out=.rt d
 | [],ρ,out,h=>by cases h;exact .inl ⟨_,rfl⟩
 | d::ds,ρ,out,h=>by
   rw[forM]at h
   obtain⟨ρ1,h1,h⟩:=qa h
   obtain⟨o,h2,h⟩:=qa h
   cases o with
   | nx ρ2=>exact Yhc ds ρ2 out h
   | ct ρ2=>exact Yhc ds ρ2 out h
   | bk ρ2=>cases h;exact .inl ⟨_,rfl⟩
   | rt d=>cases h;exact .inr ⟨_,rfl⟩
theorem y4g{iter:Expr}{body:List Stmt}{gt:D→Ro→Option Ro}(hp:PassesOwn (model X.prog X.w) X.A X.env X.xe)(hc:X.calm=true)(hi:MI X tg iter gl)(hg:MG X tg gt)(hb:MB X body fs)
 (hs:∀x,foldedSetIterable iter X.env x=pure x:=by intro _;rfl):MS X (.For tg iter body [] pos) (sFor gl gt fs):=
 PS.imp (y2x hp hc hi hg hb hs) fun F σ H hx_=>by
  obtain⟨ρ,out,H0,G0,G,e,s,h⟩:=hx_
  unfold sFor at e
  obtain⟨ds,h1,h2⟩:=qa e
  refine⟨ρ,ds,H0,G0,G,h1,s,fun J H1 G1 g1 wk=>?_⟩
  obtain⟨Hb,sb,back⟩:=(s.grow g1).rebase
  have hout:=Yhc ds ρ out h2
  refine⟨fun i m σ' H'=>m=ds.length - i∧i≤ds.length∧∃ρ' G',SR X.K Hb G1 σ' H' G' ρ'∧forM gt fs (ds.drop i) ρ'=some out,⟨_,rfl,Nat.zero_le _,ρ,G1,sb,h2⟩,?_⟩
  rintro i m σ' H' ⟨rfl,hi,ρ',G',s',e'⟩
  have W:=wk.2 i H' G' s'.gr.g s'.seen
  by_cases hlt:i < ds.length
  ·have hd:ds[i]?=some ds[i]:=qp hlt
   obtain⟨go,yl⟩:=W.1 _ hd
   rw[List.drop_eq_getElem_cons hlt,forM]at e'
   obtain⟨ρ1,e1,e'⟩:=qa e'
   obtain⟨o,e2,e'⟩:=qa e'
   refine .inr ⟨go,fun σ' H'=>i+1≤ds.length∧∃ρ' G',SR X.K Hb G1 σ' H' G' ρ'∧forM gt fs (ds.drop (i+1)) ρ'=some out,fun σ2 H2 q=>⟨ds.length - (i+1),by lia,rfl,q.1,q.2⟩,fun x H2 y=>?_⟩
   obtain⟨G2,g2,r2⟩:=yl x H2 y
   refine⟨_,ρ',ρ1,Hb,G1,G2,e1,s'.grow g2,r2,fun σ3 s3=>?_⟩
   refine⟨ρ1,o,Hb,G1,G2,e2,s3,?_⟩
   cases o with
   | nx ρ2=>exact fun σ4 H4 G4 s4=>⟨hlt,ρ2,G4,s4,e'⟩
   | ct ρ2=>exact fun σ4 H4 G4 s4=>⟨hlt,ρ2,G4,s4,e'⟩
   | bk ρ2=>
     cases e'
     exact fun σ4 H4 G4 s4=>h σ4 H4 G4 (back _ _ _ _ s4)
   | rt d=>
     cases e'
     refine fun v H4 G4 g4 r4=>h v H4 G4 ?_ r4
     have:=(back [] H4 G4 [] (SR.mkSh g4 rfl (fun i d e=>(by simp at e)) (fun i l e=>(by simp at e)) (fun i t ks vs e=>(by simp at e)))).gr
     exact this
  ·have ei:i=ds.length:=by lia
   subst ei
   rw[List.drop_length,forM]at e'
   cases e'
   exact .inl ⟨W.2 (qt _),h σ' H' G' (back _ _ _ _ s')⟩
noncomputable def Yfx(fc:Ro→Option Bool)(fb:Ro→Option Out):Nat→Ro→Option Out
 | 0,_=>none
 | n+1,ρ=>(fc ρ).bind fun k=>if k=true then (fb ρ).bind fun
  | .nx ρ2=>Yfx fc fb n ρ2
  | .ct ρ2=>Yfx fc fb n ρ2
  | .bk ρ2=>some (.nx ρ2)
  | .rt d=>some (.rt d)
  else some (.nx ρ)
theorem Yxy{c:Expr}{body:List Stmt}{fc:Ro→Option Bool}(n:Nat)(hp:PassesOwn (model X.prog X.w) X.A X.env X.xe)(hc:MT X c fc)(hb:MB X body fs):MS X (.While c body [] pos) (Yfx fc fs n):=
 PS.imp (Yxi hp hc hb) fun F σ H hx_=>by
  obtain⟨ρ,out,H0,G0,G,e,s,h⟩:=hx_
  refine⟨fun m σ' H'=>∃ρ' G',SR X.K H0 G0 σ' H' G' ρ'∧Yfx fc fs m ρ'=some out,⟨n,ρ,G,s,e⟩,?_⟩
  rintro m σ' H' ⟨ρ',G',s',e'⟩
  cases m with
  | zero=>cases e'
  | succ m=>
    rw[Yfx]at e'
    obtain⟨k,e1,e'⟩:=qa e'
    refine tTof.at e1 s' fun H1 G1 g1 s1=>?_
    cases k with
    | false=>
      rw[if_neg qh]at e'
      cases e'
      exact h σ' H1 G1 s1
    | true=>
      rw[if_pos rfl]at e'
      obtain⟨o,e2,e'⟩:=qa e'
      refine⟨fun σ' H'=>∃ρ' G',SR X.K H0 G0 σ' H' G' ρ'∧Yfx fc fs m ρ'=some out,fun σ2 H2 q=>⟨m,qz m,q⟩,?_⟩
      refine⟨ρ',o,H0,G0,G1,e2,s1,?_⟩
      cases o with
      | nx ρ2=>exact fun σ4 H4 G4 s4=>⟨ρ2,G4,s4,e'⟩
      | ct ρ2=>exact fun σ4 H4 G4 s4=>⟨ρ2,G4,s4,e'⟩
      | bk ρ2=>cases e';exact h
      | rt d=>cases e';exact h
noncomputable def capR(src:List (Option Nat))(ρ:Ro):Ro:=src.map fun o=>o.bind fun j=>match ρ[j]? with
 | some (some (B.sh d))=>some (.sh d)
 | _=>none
theorem SR.cap{H0 G0 H G:Hp}{σ:L2.St}{ρ:Ro}(s:SR K H0 G0 σ H G ρ)(src:List (Option Nat)):SR K H G (capσ src σ) H G (capR src ρ):=by
 have noow:∀(i:Nat) l,(capR src ρ)[i]?≠some (some (B.ow l)):=fun i l h=>by
  unfold capR at h
  rw[Qg]at h
  obtain⟨o,h1,h2⟩:=qb h
  obtain⟨j,rfl,h3⟩:=qa h2
  split at h3<;>cases h3
 have nood:∀(i:Nat) t ks vs,(capR src ρ)[i]?≠some (some (B.od t ks vs)):=fun i t ks vs h=>by
  unfold capR at h
  rw[Qg]at h
  obtain⟨o,h1,h2⟩:=qb h
  obtain⟨j,rfl,h3⟩:=qa h2
  split at h3<;>cases h3
 refine SR.mkSh (.refl s.seen) (by simp[capσ,capR]) (fun i d h=>?_) noow nood
 unfold capR at h
 rw[Qg]at h
 obtain⟨o,h1,h2⟩:=qb h
 obtain⟨j,rfl,h3⟩:=qa h2
 split at h3
 ·rename_i d' hd
  cases h3
  obtain⟨v,q1,q2⟩:=s.sh j _ hd
  refine⟨v,?_,q2⟩
  unfold capσ
  rw[Qg,h1]
  show some ((σ[j]?).join)=some (some v)
  rw[q1]
  rfl
 ·cases h3
noncomputable def Ygu(gt:D→Ro→Option Ro)(fc:Ro→Option Bool)(fe:Ro→Option D)(ρ:Ro):List D→Option (List D)
 | []=>some []
 | d::ds=>(gt d ρ).bind fun ρ1=>(fc ρ1).bind fun k=>if k=true then (fe ρ1).bind fun v=>(Ygu gt fc fe ρ ds).map (v::·)else Ygu gt fc fe ρ ds
noncomputable def Ybs(gl:Ro→Option (List D))(src:List (Option Nat))(gt:D→Ro→Option Ro)(fc:Ro→Option Bool)(fe:Ro→Option D):Ro→Option (List D):=fun ρ=>(gl ρ).bind fun ds=>Ygu gt fc fe (capR src ρ) ds
noncomputable def tY:Ro→Option Bool:=fun _=>some true
theorem y00{σ:L2.St}{H:Hp}{Q:Bool→Hp→Prop}(h:tTof K tY σ H Q):tYes σ H Q:=by
 obtain⟨ρ,k,H0,G0,G,e,s,h⟩:=h
 cases e
 exact h H G (.refl s.seen)
theorem y4h:PIfs X [] (tTof X.K tY):=fun pins s σ H Q I h=>y0g pins s σ H Q I (y00 h)
theorem Yar{src:List (Option Nat)}{i:Nat}(h:src[i]?=some none):∀ρ d ρ1,gSet i d (capR src ρ)=some ρ1→Le (capR src ρ) ρ1:=fun ρ d ρ1 e=>by
 cases e
 refine⟨by simp,fun j b hb=>?_⟩
 by_cases hj:j=i
 ·subst hj
  unfold capR at hb
  rw[Qg,h]at hb
  cases hb
 ·rw[Qe (Ne.symm hj)];exact hb
theorem Yxz{src:List (Option Nat)}{i k:Nat}(h:src[i]?=some none)(h':src[k]?=some none):∀ρ d ρ1,Yj9 i k d (capR src ρ)=some ρ1→Le (capR src ρ) ρ1:=fun ρ d ρ1 e=>by
 unfold Yj9 at e
 split at e
 ·cases e
  refine⟨by simp,fun j b hb=>?_⟩
  have ne:∀n,src[n]?=some none→j≠n:=fun n hn z=>by
   subst z
   unfold capR at hb
   rw[Qg,hn]at hb
   cases hb
  rw[Qe (Ne.symm (ne k h')),Qe (Ne.symm (ne i h))];exact hb
 ·cases e
theorem Yvp{src:List (Option Nat)}{gt:D→Ro→Option Ro}{fc:Ro→Option Bool}{fe:Ro→Option D}(hle:∀ρ d ρ1,gt d (capR src ρ)=some ρ1→Le (capR src ρ) ρ1){σ:L2.St}{H:Hp}{Q:VK}
 (h:tFof K (Ybs gl src gt fc fe) σ H Q):tLC (tIof K gl) src (gOf K gt) (tTof K fc) (tOf K fe) σ H Q:=by
 obtain⟨ρ,l,H0,G0,G,e,s,h⟩:=h
 unfold Ybs at e
 obtain⟨ds,h1,h2⟩:=qa e
 refine⟨ρ,ds,H0,G0,G,h1,s,fun J H1 G1 g1 wk p hp=>?_⟩
 have s1:=s.grow g1
 have sc:=s1.cap src
 have gp:G1 p=none:=s1.seen.free hp
 refine⟨fun i m σ' H'=>m=ds.length - i∧i≤ds.length∧∃G' done xs rest,SR K H1 G1 σ' H' G' (capR src ρ)∧H' p=some (.lst xs)∧G' p=none∧RpL K G' done xs∧xs.length≤i∧Ygu gt fc fe (capR src ρ) (ds.drop i)=some rest∧done++rest=l,
  ⟨_,rfl,Nat.zero_le _,G1,[],[],l,sc.grow (Gr.hid s1.seen hp _),y0,gp,.nil,Nat.zero_le _,h2,rfl⟩,?_⟩
 rintro i m σ' H' ⟨rfl,hi,G',done,xs,rest,s',hx,gx,rx,hl,e',hd⟩
 have W:=wk.2 i H' G' s'.gr.g s'.seen
 by_cases hlt:i < ds.length
 ·have hdi:ds[i]?=some ds[i]:=qp hlt
  obtain⟨go,yl⟩:=W.1 _ hdi
  rw[List.drop_eq_getElem_cons hlt,Ygu]at e'
  obtain⟨ρ1,e1,e'⟩:=qa e'
  obtain⟨k,e2,e'⟩:=qa e'
  refine .inr ⟨go,fun x H2 y=>?_⟩
  obtain⟨G2,g2,r2⟩:=yl x H2 y
  have keep:∀{Ha Ga Hb Gb:Hp},Gr Ha Ga Hb Gb→Ha p=some (.lst xs)→Ga p=none→Hb p=some (.lst xs)∧Gb p=none:=fun {Ha Ga Hb Gb} g e1 e2=>by
   refine⟨g.h _ _ e1,?_⟩
   cases q:Gb p with
   | none=>rfl
   | some o=>
     have:=g.n p e2 (by rw[q];exact fun z=>nomatch z)
     rw[e1]at this
     cases this
  obtain⟨hx2,gx2⟩:=keep g2 hx gx
  refine⟨_,capR src ρ,ρ1,H1,G1,G2,e1,s'.grow g2,r2,fun σ3 s3=>?_⟩
  refine tTof.at e2 s3 fun H4 G4 g4 s4=>?_
  obtain⟨hx4,gx4⟩:=keep g4 hx2 gx2
  have le:=hle ρ _ ρ1 e1
  cases k with
  | false=>
    rw[if_neg qh]at e' ⊢
    exact⟨ds.length - (i+1),by lia,rfl,hlt,G4,done,xs,rest,s4.le le,hx4,gx4,(rx.mono g2.g).mono g4.g,by lia,e',hd⟩
  | true=>
    rw[if_pos rfl]at e' ⊢
    obtain⟨v,e3,e'⟩:=qa e'
    obtain⟨rest',e4,rfl⟩:=qb e'
    refine tOf.at e3 s4 fun w H5 G5 g5 r5 s5=>?_
    obtain⟨hx5,gx5⟩:=keep g5 hx4 gx4
    have hz:=wk.1
    refine⟨xs,hx5,by lia,ds.length - (i+1),by lia,rfl,hlt,G5,done++[v],xs++[w],rest',?_,y0,gx5,(((rx.mono g2.g).mono g4.g).mono g5.g).append (.one r5),by simp;lia,e4,by simpa using hd⟩
    have s6:=s5.le le
    have noow:∀(i:Nat) l,(capR src ρ)[i]?≠some (some (B.ow l)):=fun i l h=>by
     unfold capR at h
     rw[Qg]at h
     obtain⟨o,h1,h2⟩:=qb h
     obtain⟨j,rfl,h3⟩:=qa h2
     split at h3<;>cases h3
    have nood:∀(i:Nat) t ks vs,(capR src ρ)[i]?≠some (some (B.od t ks vs)):=fun i t ks vs h=>by
     unfold capR at h
     rw[Qg]at h
     obtain⟨o,h1,h2⟩:=qb h
     obtain⟨j,rfl,h3⟩:=qa h2
     split at h3<;>cases h3
    refine SR.mkSh ⟨fun b o q=>?_,s6.gr.g,fun b o q=>?_,s6.gr.n⟩ s6.len s6.sh noow nood
    ·rw[y4 (y3 q hp)];exact s6.gr.h b o q
    ·rw[y4 (y3 q gx5)];exact s6.gr.s b o q
 ·have ei:i=ds.length:=by lia
  subst ei
  rw[List.drop_length,Ygu]at e'
  cases e'
  rw[List.append_nil]at hd
  subst hd
  exact .inl ⟨W.2 (qt _),h p xs H' G' (g1.trans s'.gr) (g1.h.free hp) gx hx rx⟩
section
variable {elt iter:Expr} {ifs:List Expr} {scope:Scope} {N:List Str} {src:List (Option Nat)} {gt:D→Ro→Option Ro} {fc:Ro→Option Bool} {fe:Ro→Option D}
theorem y01(S:CompSc X.N X.env.scope N src scope)(hc:X.calm=true)(hit:MI X tg iter gl)(hg:∀cl C fp s H,MG (Ya3 X scope N cl C fp s H) tg gt)(hi:∀cl C fp s H,PIfs (Ya3 X scope N cl C fp s H) ifs (tTof X.K fc))(he:∀cl C fp s H,ME (Ya3 X scope N cl C fp s H) elt fe)
 (hle:∀ρ d ρ1,gt d (capR src ρ)=some ρ1→Le (capR src ρ) ρ1) (hs:∀x,foldedSetIterable iter X.env x=pure x:=by intro _;rfl):MF X (.ListComp elt [⟨tg,iter,ifs,0⟩] scope pos) (Ybs gl src gt fc fe):=
 PE.imp (y0i S hc hit hg hi he hs) fun _ _ _ h=>Yvp hle h
theorem y02(i:Nat){y:Str}{py spos:Pos}(hN:X.N.Nodup)(S:CompSc X.N X.env.scope N src scope)(hc:X.calm=true)(hit:MI X tg iter gl)(hg:∀cl C fp s H,MG (Ya3 X scope N cl C fp s H) tg gt)(hi:∀cl C fp s H,PIfs (Ya3 X scope N cl C fp s H) ifs (tTof X.K fc))(he:∀cl C fp s H,ME (Ya3 X scope N cl C fp s H) elt fe)
 (hle:∀ρ d ρ1,gt d (capR src ρ)=some ρ1→Le (capR src ρ) ρ1) (hsw:swapsWith (.ListComp elt [⟨tg,iter,ifs,0⟩] scope pos) (some (.Name y py)) spos.line X.env=pure true:=by rfl) (hy:X.N[i]?=some y:=by rfl) (hx:Loc X.env.scope y:=by first | exact Or.inl rfl | exact Or.inr rfl)
 (hf:X.fn y=true∨X.env.scope.names.lookup y=some .local:=by first | exact .inl rfl | exact .inr rfl) (hs:∀x,foldedSetIterable iter X.env x=pure x:=by intro _;rfl):MS X (.Assign [.Name y py] (.ListComp elt [⟨tg,iter,ifs,0⟩] scope pos) spos) (sOwn i (Ybs gl src gt fc fe)):=
 PS.imp (y0j S hc hit hg hi he hN hy hx hsw hf hs) fun F σ H h=>by
  obtain⟨ρ,out,H0,G0,G,e,s,h⟩:=h
  obtain⟨l,h1,rfl⟩:=qb e
  exact Yvp hle ⟨ρ,l,H0,G0,G,h1,s,fun p xs H' G' g hp gp e' r=>h _ H' G' (s.set_ow i g hp gp e' r)⟩
end
noncomputable def Yv(n:Nat)(ds:List D):Ro:=ds.map (fun d=>some (.sh d))++List.replicate (n - ds.length) none
noncomputable def runB(k n:Nat)(fb:Ro→Option Out)(ds:List D):Option D:=if ds.length=k then (fb (Yv n ds)).bind fun
 | .rt d=>some d
 | .nx _=>some .non
 | _=>none
 else none
theorem SR.start{H G:Hp}{ds:List D}{vs:List V}{N:List Str}(s:Same G H)(r:RpL K G ds vs):SR K H G (start N vs) H G (Yv N.length ds):=by
 have hl:=r.length
 have noow:∀(i:Nat) l,(Yv N.length ds)[i]?≠some (some (B.ow l)):=fun i l h=>by
  unfold Yv at h
  rw[List.getElem?_append]at h
  split at h
  ·rw[Qg]at h
   obtain⟨d,_,h2⟩:=qb h
   cases h2
  ·rw[List.getElem?_replicate]at h
   split at h<;>cases h
 have nood:∀(i:Nat) t ks vs,(Yv N.length ds)[i]?≠some (some (B.od t ks vs)):=fun i t ks vs h=>by
  unfold Yv at h
  rw[List.getElem?_append]at h
  split at h
  ·rw[Qg]at h
   obtain⟨d,_,h2⟩:=qb h
   cases h2
  ·rw[List.getElem?_replicate]at h
   split at h<;>cases h
 refine SR.mkSh (.refl s) (by simp[L2.start,Yv,hl]) (fun i d h=>?_) noow nood
 unfold Yv at h
 rw[List.getElem?_append]at h
 split at h
 ·rename_i hi
  rw[Qg]at h
  obtain⟨d',h1,h2⟩:=qb h
  cases h2
  obtain⟨v,h3,h4⟩:=r.get h1
  refine⟨v,?_,h4⟩
  unfold L2.start
  rw[List.getElem?_append_left (by rw[qe,hl];simpa using hi),Qg,h3]
  rfl
 ·rw[List.getElem?_replicate]at h
  split at h<;>cases h
section
variable {P:Program} {w:World} {mg:Str→Option Value} {base:Heap}
theorem Yvq{x qual:Str}{st:Stmt}{f:Addr}{fd:FuncData}{N ps:List Str}{k n m:Nat}{fb:Ro→Option Out}(F:Fun K x qual st f fd)(S:FnScope N ps (defScope st))(hn:N.length=n)(hm:ps.length=m)
 (hb:∀(cdv:Value) (A:Around) (outer:List Env) (s:Shared) (H:Hp) (E:XK),Room k (A.deeper (envOfC qual (defScope st) s.heap.objs.size f cdv))→MB (cxOf CX0 P w K mg base N qual (defScope st) f cdv A outer s H E).nox (defBody st) fb) :
 FnOk P w K mg base CX0 (k+1) f fd ps (spOf K m (runB m n fb)):=by
 refine F.ok S (fun vs H Q E h=>by rw[h.1,hm]) fun cdv A outer s H vs Q E hr h=>?_
 obtain⟨hl,ds,d,G,sm,r,e,q⟩:=h
 refine⟨_,hb cdv A outer s H E hr,?_⟩
 unfold runB at e
 split at e
 ·rename_i hds
  obtain⟨o,h1,h2⟩:=qa e
  refine⟨Yv n ds,o,H,G,G,h1,by rw[←hn];exact SR.start sm r,?_⟩
  cases o with
  | rt d'=>cases h2;exact fun v H' G' g r'=>q v H' G' g r'
  | nx ρ=>cases h2;exact fun σ' H' G' s'=>q .non H' G' s'.gr (by rw[Rp])
  | bk ρ=>cases h2
  | ct ρ=>cases h2
 ·cases e
end
end
end
section
variable {K:W.Frag}
def Okf(P:Program)(w:World)(K:W.Frag)(mg:Str→Option Value)(base:Heap)(k n:Nat)(x:Str)(ps:List Str)(fn:List D→Option D):Prop:=
 ∃a fd,FnOk P w K mg base CX0 k a fd ps (spOf K n fn)∧Binds K fd ps []∧W.keepIn K (.ref a)=true∧mg x=some (.ref a)
theorem Yak{P:Program}{w:World}{K:W.Frag}{mg:Str→Option Value}{base:Heap}{k n:Nat}{x q:Str}{ps:List Str}{fn:List D→Option D}{st:Stmt}{a:Addr}{fd:FuncData}(F:Fun K x q st a fd)(b:Binds K fd ps [])
 (hm:mg x=some (.ref a)) (h:FnOk P w K mg base CX0 k a fd ps (spOf K n fn)):Okf P w K mg base k n x ps fn:=⟨a,fd,h,b,F.kp,hm⟩
section
variable {X:Cx} {a b e:Expr} {es:List Expr} {fa fb:Ro→Option D} {ga:Ro→Option (List D)} {pos:Pos}
theorem Yx0{j k n:Nat}{x:Str}{p:Pos}{ps:List Str}{fn:List D→Option D}(c:Okf X.prog X.w X.K X.mg X.base j n x ps fn)(hr:Room k X.A)(hg:Gl X x)(ha:MA X (e::es) ga)(hl:∀ρ l,ga ρ=some l→l.length=n)
 (hj:j≤k:=by first | exact qt _ | lia) (hdb:(x==("__debug__":Str))=false:=by decide) (he:starEach (e::es) X.env=(false,eval e X.env)::starEach es X.env:=by rfl) (hpl:(backTo pos (starEach es X.env)).any (·.1)=false:=by rfl) :
 ME X (.Call (.Name x p) (e::es) [] pos) (cC ga fn):=by
 obtain⟨a,fd,F,hb,hk,hm⟩:=c
 exact y0v F (hr.mono hj) hg hm hk hb ha hdb he hpl hl
theorem y4i(ha:MC X a fa)(hb:MC X b fb):ME X (.BinOp a .Add b pos) (b2 fa fb addI):=Ymj y2y Yu9 ha hb
noncomputable def negI:D→Option D
 | .int i=>some (.int (-i))
 | _=>none
theorem y4j(ha:MC X a fa):ME X (.UnaryOp .USub a pos) (b1 fa negI):=PE.imp (y55 y23 ha) fun σ H Q hx_=>by
 obtain⟨ρ,d,H0,G0,G,e,s,h⟩:=hx_
 obtain⟨x,h1,h2⟩:=Yer e
 refine tCof.at h1 s fun v H1 G1 g1 r1 s1=>?_
 cases x<;>simp[negI]at h2
 subst h2
 rw[Ct]at r1
 exact⟨_,r1,h _ H1 G1 g1 (by rw[Rp])⟩
noncomputable def catD:D→D→Option (List D)
 | .lst a,.lst b=>if a.length+b.length≤cap6 then some (a++b)else none
 | _,_=>none
noncomputable def y6u:R2:=fun x y H Q=>∃l b xs zs,x=.ref l∧y=.ref b∧Rd H l (.lst xs)∧Rd H b (.lst zs)∧xs.length+zs.length≤sizeLine∧∀p,H p=none→Q (.ref p) (upd H p (.lst (xs++zs)))
theorem y03:OpR X (binaryOp .Add) y6u:=by
 intro pins s σ H x y v u Q I rx ry h
 obtain⟨l,b,xs,zs,rfl,rfl,hH,hB,hz,q⟩:=h
 cases rx
 cases ry
 obtain⟨z,its,n,r,e⟩:=hH.ok I.hok
 obtain⟨z2,its2,n2,r2,e2⟩:=hB.ok I.hok
 have hl:=r.length
 have hl2:=r2.length
 refine PySem.P.add_list e e2 ?_ (by rw[qj,qj];lia)
 have ea:its.toArray++its2.toArray=(its++its2).toArray:=by simp
 rw[ea]
 exact⟨.ref _,_,I.lnew (t':=s.toks) (r.append r2) (by rw[qy];lia),rfl,q _ I.fresh⟩
theorem y4k(ha:MC X a fa)(hb:MC X b fb):MF X (.BinOp a .Add b pos) (b2 fa fb catD):=PE.imp (Yz3 y03 ha hb) fun σ H Q hx_=>by
 obtain⟨ρ,l,H0,G0,G,e,s,h⟩:=hx_
 obtain⟨dx,dy,h1,h2,h3⟩:=Yj5 e
 refine tCof.at h1 s fun v H1 G1 g1 r1 s1=>tCof.at h2 s1 fun u H2 G2 g2 r2 s2=>?_
 unfold catD at h3
 split at h3
 ·rename_i l1 l2
  split at h3
  ·rename_i hz
   cases h3
   have r1':=r1.grow g2
   rw[Ct]at r1' r2
   obtain⟨p,xs,rfl,gp,rl⟩:=r1'
   obtain⟨q,zs,rfl,gq,rm⟩:=r2
   refine⟨p,q,xs,zs,rfl,rfl,gp,gq,by rw[rl.length,rm.length];exact Yir hz,fun m hm=>?_⟩
   exact h m _ _ G2 ((g1.trans g2).trans (.hid s2.seen hm _)) (g1.h.free (g2.h.free hm)) (s2.seen.free hm) y0 (rl.append rm)
  ·cases h3
 ·cases h3
noncomputable def Yej:D→String
 | .non=>"NoneType"
 | .bl _=>"bool"
 | .int _=>"int"
 | .str _=>"str"
 | .tup _=>"tuple"
 | .lst _=>"list"
 | .scr _=>"list"
 | .dct _ _ _=>"dict"
noncomputable def Ync:D→Bool
 | .scr _=>false
 | .dct _ _ _=>false
 | _=>true
noncomputable def isiD(T:String)(d:D):Option Bool:=if Ync d=true then some (Yej d==T||(T=="int"&&Yej d=="bool"))else none
theorem y04{G H:Hp}{d:D}{v:V}(hn:Ync d=true)(r:Ct K G H d v):TyOf K H v (.type (Yej d)):=by
 cases d<;>rw[Ct]at r
 ·subst r;exact .non
 ·subst r;exact .bl _
 ·subst r;exact .int _
 ·obtain⟨rfl,_⟩:=r;exact .str _
 ·obtain⟨a,xs,rfl,g,_⟩:=r;exact .tup g.1
 ·obtain⟨a,xs,rfl,g,_⟩:=r
  rcases g with g | ⟨o,g⟩
  ·exact .lst g
  ·exact .frz g
 ·cases hn
 ·cases hn
def Kit(T:String):Prop:=∀(K:W.Frag) (d:D),W.kitOne K (.type (Yej d)) (.type T)=some (Yej d==T||(T=="int"&&Yej d=="bool"))
theorem y05:Kit "int":=fun K d=>by cases d<;>rfl
theorem Ysl:Kit "bool":=fun K d=>by cases d<;>rfl
theorem y06:Kit "str":=fun K d=>by cases d<;>rfl
theorem Yka:Kit "tuple":=fun K d=>by cases d<;>rfl
theorem Yx1{T:String}(hk:Kit T):Ydx X (.builtin "isinstance") (fun xs H Q=>∃x d G,xs=[x,.ty T]∧Ync d=true∧Ct X.K G H d x∧Q (.bl (Yej d==T||(T=="int"&&Yej d=="bool"))) H):=by
 intro pins s σ H xs us Q I r h
 obtain⟨x,d,G,rfl,hn,rx,q⟩:=h
 obtain⟨u,w',rfl,r1,r2⟩:=Yuo r
 cases (show w'=Value.type T from r2)
 exact Yur I r1 (y04 hn rx) (hk X.K d) fun tk=>⟨.bl _,H,I.tok tk,rfl,q⟩
theorem y4l{T:String}{tn:Str}{p p2:Pos}(ha:MC X a fa)(hg:Gl X "isinstance")(hg2:Gl X tn)(hm:X.mg "isinstance"=none)(hm2:X.mg tn=none)(hv2:bootBuiltins tn=some (.type T))(hk:Kit T)(hv:bootBuiltins "isinstance"=some (.builtin "isinstance"):=by decide +kernel)
 (hn2:tn≠"__name__":=by decide) (hd2:(tn==("__debug__":Str))=false:=by decide)
 (hs:starEach [a,.Name tn p2] X.env=(false,eval a X.env)::starEach [.Name tn p2] X.env:=by rfl) (hs2:starEach [.Name tn p2] X.env=(false,eval (.Name tn p2) X.env)::starEach [] X.env:=by rfl) (hpl:(backTo pos (starEach [.Name tn p2] X.env)).any (·.1)=false:=by rfl) :
 ME X (.Call (.Name "isinstance" p) [a,.Name tn p2] [] pos) (mB (b1 fa (isiD T))):=
 PE.imp (Yjt (Yx1 hk) hg hm hv (Yg7 ha (Yg7 (Yzx hg2 hm2 hv2 (v:=.ty T) rfl hn2 hd2) Yme hs2) hs) (by decide) (by decide) hs hpl) fun σ H Q hx_=>by
  obtain⟨ρ,d,H0,G0,G,e,s,h⟩:=hx_
  obtain⟨k,ek,rfl⟩:=Yqv e
  obtain⟨x,h1,h2⟩:=Yer ek
  unfold isiD at h2
  split at h2
  ·cases h2
   exact tCof.at h1 s fun v H1 G1 g1 r1 s1=>⟨v,x,G1,rfl,by assumption,r1,h _ H1 G1 g1 (by rw[Rp])⟩
  ·cases h2
end
end
section
variable {K:W.Frag}
noncomputable def insI(a:Int):List Int→List Int
 | []=>[a]
 | b::l=>if a≤b then a::b::l else b::insI a l
noncomputable def Ydc:List Int→List Int
 | []=>[]
 | a::l=>insI a (Ydc l)
theorem Ykb(a:Int):∀l:List Int,(insI a l).Perm (a::l)
 | []=>.refl _
 | b::l=>by
   rw[insI]
   split
   ·exact .refl _
   ·exact((Ykb a l).cons b).trans (.swap a b l)
theorem Ybb:∀l:List Int,(Ydc l).Perm l
 | []=>.refl _
 | a::l=>(Ykb a _).trans ((Ybb l).cons a)
theorem Ykc(a:Int):∀l:List Int,l.Pairwise (·≤·)→(insI a l).Pairwise (·≤·)
 | [],_=>by simp[insI]
 | b::l,h=>by
   rw[insI]
   split
   ·rename_i hab
    refine List.pairwise_cons.mpr ⟨fun x hx=>?_,h⟩
    rcases qr hx with rfl | hx
    ·exact hab
    ·exact Int.le_trans hab ((List.pairwise_cons.mp h).1 x hx)
   ·rename_i hab
    refine List.pairwise_cons.mpr ⟨fun x hx=>?_,Ykc a l (List.pairwise_cons.mp h).2⟩
    rcases qr ((Ykb a l).mem_iff.mp hx)with rfl | hx
    ·lia
    ·exact(List.pairwise_cons.mp h).1 x hx
theorem Ybg:∀l:List Int,(Ydc l).Pairwise (·≤·)
 | []=>.nil
 | a::l=>Ykc a _ (Ybg l)
section
variable {prog:Program} {w:World} {A:Around} {E:Value→Shared→Prop} {s:Shared}
theorem Yth{l:Addr}{vs:List Value}{Q:Value→Shared→Prop}(hl:s.heap.IsList l vs.toArray)(h2:vs.length < 2)
 (h:Q (.ref (s.heap.objs.size+1)) { s with heap:=sortedAll s.heap vs vs.toArray }):wpAny (model prog w) A (call (.builtin "sorted") [.ref l]) Q E s:=by
 refine Calls.call_function_entry kind_sorted plain_sorted entry_sorted (args_sorted1 _) ?_
 unfold Builtin.«sorted»
 refine wpAny_bind (m:=checkCount "sorted" 1 1 _) (wpAny_pure ?_)
 refine wpAny_bind (collect_list hl ?_ (by rw[sizeLine_eq];lia))
 refine wpAny_bind (wpAny_newList ?_ (by rw[sizeLine_eq];lia))
 have hsz:((s.heap.push (seqObj "list" #[] 0)).update s.heap.objs.size (Obj.mapSeq (·++vs.toArray))).objs.size=s.heap.objs.size+1:=by
  rw[Heap.size_update,size_push']
 have hoL:(((s.heap.push (seqObj "list" #[] 0)).update s.heap.objs.size (Obj.mapSeq (·++vs.toArray))).push (seqObj "list" vs.toArray 0)).get? (s.heap.objs.size+1)=some (seqObj "list" vs.toArray 0):=by
  rw[←hsz];exact qo _ rfl
 show wpAny _ _ _ _ _ { s with heap:=((s.heap.push (seqObj "list" #[] 0)).update s.heap.objs.size (Obj.mapSeq (·++vs.toArray))).push (seqObj "list" vs.toArray 0) }
 rw[hsz]
 refine wpAny_bind (wpAny_holding (wpAny_call_entry slot_list_sort ⟨_,hoL,rfl⟩ entry_list_sort ?body (args_list_sort _)))
 case body=>
  rw[list_sort_plain]
  generalize hS:({ s with heap:=((s.heap.push (seqObj "list" #[] 0)).update s.heap.objs.size (Obj.mapSeq (·++vs.toArray))).push (seqObj "list" vs.toArray 0) }:Shared)=S at *
  have hoS:S.heap.get? (s.heap.objs.size+1)=some (seqObj "list" vs.toArray 0):=by rw[←hS];exact hoL
  have ha:s.heap.objs.size+1 < S.heap.objs.size:=qk hoS
  refine wpAny_bind (listItems_at hoS rfl ?_)
  refine wpAny_bind (listUpdate_at hoS rfl ?_ (by rw[qj,sizeLine_eq];lia) (Nat.zero_le _))
  obtain⟨e1,ho1⟩:∃e1,(S.heap.update (s.heap.objs.size+1) (Obj.mapSeq fun _=>#[])).get? (s.heap.objs.size+1)=some (seqObj "list" #[] e1):=⟨_,get?_update_seq hoS (fun _=>#[])⟩
  refine wpAny_bind (seqEpoch_at ho1 rfl ?_)
  refine wpAny_bind (wpAny_newTuple ?_ (by show vs.length≤_;rw[sizeLine_eq];lia))
  refine wpAny_bind (wpAny_newList ?_ (Nat.zero_le _))
  refine wpAny_holding ?_
  have ho6:(((S.heap.update (s.heap.objs.size+1) (Obj.mapSeq fun _=>#[])).push (seqObj "tuple" vs.toArray 0)).push (seqObj "list" #[] 0)).get? (s.heap.objs.size+1)=some (seqObj "list" #[] e1):=by
   rw[Heap.get?_push_ne _ _ _ (by rw[size_push',Heap.size_update];exact ql (qv ha)),Heap.get?_push_ne _ _ _ (by rw[Heap.size_update];exact ql ha)]
   exact ho1
  show wpAny (model prog w) _ _ _ _ { S with heap:=((S.heap.update (s.heap.objs.size+1) (Obj.mapSeq fun _=>#[])).push (seqObj "tuple" vs.toArray 0)).push (seqObj "list" #[] 0) }
  dsimp only
  have hlt:vs.toArray.size < 2:=by rw[qj];exact h2
  rw[if_pos hlt,if_pos hlt]
  refine wpAny_bind (wpAny_pure ?_)
  rw[StateT.run_pure]
  refine wpAny_bind (wpAny_pure ?_)
  dsimp only
  refine wpAny_bind (seqEpoch_at ho6 rfl ?_)
  refine wpAny_bind (listUpdate_at ho6 rfl ?_ (hsz2:=by rw[Array.size_map];show(pairsOf vs).size≤_;rw[pairsOf_size,sizeLine_eq];lia))
  simp only[bne_self_eq_false,Ql,if_false]
  have hout:(arrOf (SortSt.mk' general' (vs.toArray.zip vs.toArray) #[] 7 none)).map (·.2)=vs.toArray:=by
   show(vs.toArray.zip vs.toArray).map (·.2)=vs.toArray
   apply Array.toList_inj.mp
   simp[List.map_snd_zip]
  refine wpAny_pure ⟨_,rfl,wpAny_pure ⟨_,rfl,?_⟩⟩
  have hh:=h
  unfold sortedAll sortedHeap at hh
  rw[←hS,hout]
  exact hh
noncomputable def plt(j:Int)(q:Bool)(i:Int)(p:Bool):Bool:=if j=i then (!q&&p)else decide (j < i)
theorem y07{b c:Addr}{i j:Int}{p q:Bool}{t u:Tok}{R:Bool→Shared→Prop}(hb:IsTup s.heap b #[.int i t,.bool p])(hc:IsTup s.heap c #[.int j u,.bool q])(h:R (plt j q i p) s) :
 wpAny (model prog w) A (keyLt' (tuples' true) (.ref c) (.ref b)) R E s:=by
 obtain⟨ob,h1,_,n1,d1⟩:=hb
 obtain⟨oc,h2,_,n2,d2⟩:=hc
 refine W.kat_lt h2 d2 h1 d1 ?_
 show W.KatLex prog w A true false R [(.int j u,.int i t),(.bool q,.bool p)] 0 s
 unfold plt at h
 refine W.kat_cons (SeqAt.EqAt.int_int j u i t prog w _ _ (W.kat_go (fun e=>W.kat_yes (W.kat_cons (SeqAt.EqAt.bool_bool q p prog w _ _ (W.kat_go (fun e2=>W.kat_yes (W.kat_nil ?_)) fun e2=>W.kat_no (W.kat_one _ _ (lt_bool ?_)))))) fun e=>W.kat_no ?_))
 ·have e':j=i:=by simpa using e
  have e2':q=p:=by simpa using e2
  rw[if_pos e',e2']at h
  cases p<;>exact h
 ·have e':j=i:=by simpa using e
  rw[if_pos e']at h
  show R _ s
  cases p<;>cases q<;>first | exact h | simp at e2
 ·have e':¬j=i:=by simpa using e
  rw[if_neg e']at h
  exact oneLt_int h
theorem Yti{cmp:Nat→Nat→(Bool→Shared→Prop)→Shared→Prop}{G:Array Nat→Shared→Prop}{S:Shared}(h:cmp 1 0 (fun k s'=>if k=true then G #[1,0] s' else G #[0,1] s') S):(W.kas_sort 2).kasWp cmp G S:=by
 show cmp 1 0 (fun k s'=>W.KasT.kasWp cmp _ G s') S
 have e:∀(k:Bool) (s':Shared),(if k=true then G #[1,0] s' else G #[0,1] s')=W.KasT.kasWp cmp (W.KasT.bind (W.KasT.bind (if k=true then W.KasT.ret 1 else W.kas_asc (List.toArray (List.range 2)) 0 2)
  fun n=>if (n==2)=true then W.KasT.ret (n,List.toArray (List.range 2))else if n > 1 then .ask ((List.toArray (List.range 2)).getD 0 0) ((List.toArray (List.range 2)).getD (n - 1) 0) fun c=>if c=true then .ret (n,List.toArray (List.range 2))else W.kas_descPart n 2 (W.kas_rev (List.toArray (List.range 2)) 0 n)
   else W.kas_descPart n 2 (List.toArray (List.range 2))) fun r=>if r.1 < 2 then W.kas_bin (2 - max r.1 1) r.2 (max r.1 1)else .ret r.2) G s':=fun k s'=>by cases k<;>rfl
 have e2:(fun(k:Bool) (s':Shared)=>if k=true then G #[1,0] s' else G #[0,1] s')=_:=funext fun k=>funext fun s'=>e k s'
 rw[e2]at h
 exact h
theorem Ytj{l b c:Addr}{i j:Int}{p q:Bool}{t u:Tok}{Q:Value→Shared→Prop}(hl:s.heap.IsList l #[.ref b,.ref c])(hb:IsTup s.heap b #[.int i t,.bool p])(hc:IsTup s.heap c #[.int j u,.bool q])
 (h:Q (.ref (s.heap.objs.size+1)) { s with heap:=sortedAll s.heap [.ref b,.ref c] (if plt j q i p=true then #[.ref c,.ref b]else #[.ref b,.ref c]) }):wpAny (model prog w) A (call (.builtin "sorted") [.ref l]) Q E s:=by
 generalize hvs:[Value.ref b,Value.ref c]=vs at *
 have hl':s.heap.IsList l vs.toArray:=hl
 have hlen:vs.length=2:=by rw[←hvs];rfl
 refine Calls.call_function_entry kind_sorted plain_sorted entry_sorted (args_sorted1 _) ?_
 unfold Builtin.«sorted»
 refine wpAny_bind (m:=checkCount "sorted" 1 1 _) (wpAny_pure ?_)
 refine wpAny_bind (collect_list hl' ?_ (by rw[sizeLine_eq];lia))
 refine wpAny_bind (wpAny_newList ?_ (by rw[sizeLine_eq];lia))
 have hsz:((s.heap.push (seqObj "list" #[] 0)).update s.heap.objs.size (Obj.mapSeq (·++vs.toArray))).objs.size=s.heap.objs.size+1:=by
  rw[Heap.size_update,size_push']
 have hoL:(((s.heap.push (seqObj "list" #[] 0)).update s.heap.objs.size (Obj.mapSeq (·++vs.toArray))).push (seqObj "list" vs.toArray 0)).get? (s.heap.objs.size+1)=some (seqObj "list" vs.toArray 0):=by
  rw[←hsz];exact qo _ rfl
 have keep0:∀b o,s.heap.get? b=some o→(((s.heap.push (seqObj "list" #[] 0)).update s.heap.objs.size (Obj.mapSeq (·++vs.toArray))).push (seqObj "list" vs.toArray 0)).get? b=some o:=fun b o q=>by
  have hlt:b < s.heap.objs.size:=qk q
  rw[Heap.get?_push_ne _ _ _ (by rw[hsz];exact ql (qv hlt)),Heap.get?_update_ne _ _ _ _ (ql hlt),Heap.get?_push_ne _ _ _ (ql hlt)]
  exact q
 show wpAny _ _ _ _ _ { s with heap:=((s.heap.push (seqObj "list" #[] 0)).update s.heap.objs.size (Obj.mapSeq (·++vs.toArray))).push (seqObj "list" vs.toArray 0) }
 rw[hsz]
 refine wpAny_bind (wpAny_holding (wpAny_call_entry slot_list_sort ⟨_,hoL,rfl⟩ entry_list_sort ?body (args_list_sort _)))
 case body=>
  rw[list_sort_plain]
  generalize hS:({ s with heap:=((s.heap.push (seqObj "list" #[] 0)).update s.heap.objs.size (Obj.mapSeq (·++vs.toArray))).push (seqObj "list" vs.toArray 0) }:Shared)=S at *
  have hoS:S.heap.get? (s.heap.objs.size+1)=some (seqObj "list" vs.toArray 0):=by rw[←hS];exact hoL
  have keepS:∀b o,s.heap.get? b=some o→S.heap.get? b=some o:=by rw[←hS];exact keep0
  have ha:s.heap.objs.size+1 < S.heap.objs.size:=qk hoS
  refine wpAny_bind (listItems_at hoS rfl ?_)
  refine wpAny_bind (listUpdate_at hoS rfl ?_ (by rw[qj,sizeLine_eq];lia) (Nat.zero_le _))
  obtain⟨e1,ho1⟩:∃e1,(S.heap.update (s.heap.objs.size+1) (Obj.mapSeq fun _=>#[])).get? (s.heap.objs.size+1)=some (seqObj "list" #[] e1):=⟨_,get?_update_seq hoS (fun _=>#[])⟩
  refine wpAny_bind (seqEpoch_at ho1 rfl ?_)
  refine wpAny_bind (wpAny_newTuple ?_ (by show vs.length≤_;rw[sizeLine_eq];lia))
  refine wpAny_bind (wpAny_newList ?_ (Nat.zero_le _))
  refine wpAny_holding ?_
  have ho6:(((S.heap.update (s.heap.objs.size+1) (Obj.mapSeq fun _=>#[])).push (seqObj "tuple" vs.toArray 0)).push (seqObj "list" #[] 0)).get? (s.heap.objs.size+1)=some (seqObj "list" #[] e1):=by
   rw[Heap.get?_push_ne _ _ _ (by rw[size_push',Heap.size_update];exact ql (qv ha)),Heap.get?_push_ne _ _ _ (by rw[Heap.size_update];exact ql ha)]
   exact ho1
  have keep6:∀b o,s.heap.get? b=some o→(((S.heap.update (s.heap.objs.size+1) (Obj.mapSeq fun _=>#[])).push (seqObj "tuple" vs.toArray 0)).push (seqObj "list" #[] 0)).get? b=some o:=fun b o q=>by
   have hlt:b < s.heap.objs.size:=qk q
   refine qd _ (qd _ ?_)
   rw[Heap.get?_update_ne _ _ _ _ (ql (qv hlt))]
   exact keepS b o q
  generalize hS6:({ S with heap:=((S.heap.update (s.heap.objs.size+1) (Obj.mapSeq fun _=>#[])).push (seqObj "tuple" vs.toArray 0)).push (seqObj "list" #[] 0) }:Shared)=S6
  have ho7:S6.heap.get? (s.heap.objs.size+1)=some (seqObj "list" #[] e1):=by rw[←hS6];exact ho6
  have tb:IsTup S6.heap b #[.int i t,.bool p]:=by
   obtain⟨o,a1,a2⟩:=hb
   exact⟨o,by rw[←hS6];exact keep6 b o a1,a2⟩
  have tc:IsTup S6.heap c #[.int j u,.bool q]:=by
   obtain⟨o,a1,a2⟩:=hc
   exact⟨o,by rw[←hS6];exact keep6 c o a1,a2⟩
  dsimp only
  have hn2:¬vs.toArray.size < 2:=by rw[qj];lia
  rw[if_neg hn2,if_neg hn2]
  have kt:W.KatTups S6.heap vs [.int i t,.int j u]:=by
   obtain⟨ob,b1,b2,n1,b3⟩:=tb
   obtain⟨oc,c1,c2,n2,c3⟩:=tc
   rw[←hvs]
   exact .cons b1 b2 b3 rfl (.cons c1 c2 c3 rfl .nil)
  refine wpAny_bind (W.kat_kind (T:=.type "int") kt (qv (qz 0)) (fun v hv=>?_) (by decide) ?_)
  ·rcases qr hv with rfl | hv
   ·exact .of_pure rfl
   ·rcases qr hv with rfl | hv
    ·exact .of_pure rfl
    ·cases hv
  have hcmp:wpAny (model prog w) A.in1.in1 (keyLt' (tuples' true) (vs.getD 1 Value.none) (vs.getD 0 Value.none)) (fun k s'=>k=plt j q i p∧s'=S6) (fun _ _=>False) S6:=by
   rw[←hvs]
   exact y07 tb tc ⟨rfl,rfl⟩
  refine wpAny_bind (wpAny_mono (W.kat_run (ks:=vs) (vs:=vs) (κ:=tuples' true) (G:=fun pm s'=>s'=S6∧pm=if plt j q i p=true then #[1,0]else #[0,1])
   (Q:=fun st' s'=>s'=S6∧failedOf st'=none∧(arrOf st').map (·.2)=if plt j q i p=true then #[.ref c,.ref b]else #[.ref b,.ref c]) rfl (by lia) (by lia) (fun pm st' s' a1 a2 a3 a4=>?_) ?_) ?_ fun _ _ e=>e)
  ·obtain⟨rfl,rfl⟩:=a4
   refine⟨rfl,a3,?_⟩
   rw[W.kat_snds rfl a2,←hvs]
   cases plt j q i p<;>rfl
  ·rw[hlen]
   refine Yti ?_
   refine wpAny_mono hcmp (fun k s' hk=>?_) fun _ _ x=>x
   obtain⟨rfl,rfl⟩:=hk
   cases plt j q i p
   ·exact⟨rfl,rfl⟩
   ·exact⟨rfl,rfl⟩
  rintro⟨⟨⟩,st'⟩ s' ⟨rfl,hf,hout⟩
  dsimp only
  refine wpAny_bind (seqEpoch_at ho7 rfl ?_)
  refine wpAny_bind (listUpdate_at ho7 rfl ?_ (Nat.zero_le _) (by rw[hout,sizeLine_eq];cases plt j q i p<;>exact(by decide:2≤16777216+1)))
  rw[hf]
  simp only[bne_self_eq_false,Ql,if_false]
  refine wpAny_pure ⟨_,rfl,wpAny_pure ⟨_,rfl,?_⟩⟩
  have hh:=h
  unfold sortedAll sortedHeap at hh
  rw[←hS6,←hS,hout]
  subst hvs
  exact hh
end
noncomputable def Ycu:List D→Option (List Int)
 | []=>some []
 | .int i::l=>(Ycu l).map (i::·)
 | _=>none
noncomputable def prI:D→Option (Int × Bool)
 | .tup [.int j,.bl q]=>some (j,q)
 | _=>none
noncomputable def Yzk(e d:D):Option Bool:=(prI e).bind fun x=>(prI d).map fun y=>plt x.1 x.2 y.1 y.2
theorem Yis{α:Type}{x:α}{P:Prop}(h:none=some x):P:=by cases h
theorem Ysm{d:D}{x:Int × Bool}(h:prI d=some x):d=.tup [.int x.1,.bl x.2]:=by
 cases d with
 | tup l=>cases l with
   | nil=>exact Yis h
   | cons a l=>cases a with
     | int j=>cases l with
       | nil=>exact Yis h
       | cons b l=>cases b with
         | bl q=>cases l with
           | nil=>exact Option.some.inj h ▸ rfl
           | cons _ _=>exact Yis h
         | _=>exact Yis h
     | _=>exact Yis h
 | _=>exact Yis h
noncomputable def Ytk(l:List D):Option (List D):=match Ycu l with
 | some ns=>if ns.length < 64 then some ((Ydc ns).map D.int)else none
 | none=>match l with
   | [d]=>some [d]
   | [d,e]=>(Yzk e d).map fun k=>if k=true then [e,d]else [d,e]
   | _=>none
noncomputable def Ynd:List D→Option (List D)
 | [.lst l]=>Ytk l
 | _=>none
theorem Ye4:∀{l:List D} {ns:List Int},Ycu l=some ns→l=ns.map D.int
 | [],ns,h=>by cases h;rfl
 | .int i::l,ns,h=>by
   rw[Ycu]at h
   obtain⟨m,h1,rfl⟩:=qb h
   rw[Ye4 h1]
   rfl
 | .non::l,ns,h=>by simp[Ycu]at h
 | .bl _::l,ns,h=>by simp[Ycu]at h
 | .str _::l,ns,h=>by simp[Ycu]at h
 | .tup _::l,ns,h=>by simp[Ycu]at h
 | .lst _::l,ns,h=>by simp[Ycu]at h
 | .scr _::l,ns,h=>by simp[Ycu]at h
 | .dct _ _ _::l,ns,h=>by simp[Ycu]at h
theorem Yh0{G:Hp}:∀{ns:List Int} {xs:List V},RpL K G (ns.map D.int) xs→xs=ns.map V.int
 | [],xs,h=>by rw[List.map_nil,RpL]at h;exact h
 | n::ns,xs,h=>by
   rw[Qc,RpL]at h
   obtain⟨x,r,rfl,h1,h2⟩:=h
   rw[Rp]at h1
   rw[h1,Yh0 h2]
   rfl
def Yvr(H:Hp)(x:V)(i:Int)(p:Bool):Prop:=∃a,x=.ref a∧H a=some (.tup [.int i,.bl p])
noncomputable def y4m:List V→Hp→VK→Prop:=fun vs H Q=>∃a xs,vs=[.ref a]∧Rd H a (.lst xs)∧
 ((∃ns:List Int,xs=ns.map V.int∧ns.length < 64∧∀p,H p=none→Q (.ref p) (upd H p (.lst ((Ydc ns).map V.int))))∨
  (xs.length < 2∧∀p,H p=none→Q (.ref p) (upd H p (.lst xs)))∨
  (∃x y i p j q,xs=[x,y]∧Yvr H x i p∧Yvr H y j q∧∀r,H r=none→Q (.ref r) (upd H r (.lst (if plt j q i p=true then [y,x]else [x,y])))))
theorem Yek{X:Cx}:Ydx X (.builtin "sorted") y4m:=by
 intro pins s σ H xs us Q I r h
 obtain⟨a,ys,rfl,hr,h⟩:=h
 obtain⟨u,rfl,ru⟩:=Yhu r
 cases ru
 obtain⟨its,rv,pl,hz⟩:=I.list (.inl hr)
 have fin:∀(out:Array Value) (zs:List V),Vals zs out.toList→zs.length≤sizeLine→Q (.ref (s.heap.objs.size+1)) (upd H (s.heap.objs.size+1) (.lst zs))→EP X pins σ Q (.ref (s.heap.objs.size+1)) { s with heap:=sortedAll s.heap its out }:=fun out zs hv hz' hq=>by
  obtain⟨e,he⟩:=sortedAll_at s.heap its out
  exact⟨.ref (s.heap.objs.size+1),_,I.laid (t':=s.toks) (fun b o q=>sortedAll_old q) (Nat.le_succ _) (show ObjOk X.prog X.w _ _ _ (.lst zs) from⟨hz',out.toList,e,hv,by rw[Array.toArray_toList];exact he⟩),rfl,hq⟩
 have fr:H (s.heap.objs.size+1)=none:=I.hok.fresh (Nat.le_succ _)
 have hl:=rv.length
 rcases h with⟨ns,rfl,h64,q⟩ | ⟨h2,q⟩ | ⟨x,y,i,p,j,k,rfl,px,py,q⟩
 ·have hI:=Ygl rv
  refine sorted_ints pl.isList hI (by rw[hI.length];exact h64) fun out ns' h1 h2 h3=>?_
  have e:ns'=Ydc ns:=W.ksm_same (h2.trans (Ybb ns).symm) h3 (Ybg ns)
  subst e
  have hn:(Ydc ns).length=ns.length:=(Ybb ns).length_eq
  exact fin out _ (Yf0 h1) (by rw[qe,hn,sizeLine_eq];lia) (q _ fr)
 ·refine Yth pl.isList (by lia) ?_
  exact fin its.toArray ys (by simpa using rv) hz (q _ fr)
 ·obtain⟨b,rfl,hb⟩:=px
  obtain⟨c,rfl,hc⟩:=py
  obtain⟨u1,u2,rfl,r1,r2⟩:=Yuo rv
  cases r1
  cases r2
  obtain⟨_,ib,vb,tb⟩:=(show ObjOk X.prog X.w H s.heap b (.tup [.int i,.bl p]) from I.hok b _ hb)
  obtain⟨_,ic,vc,tc⟩:=(show ObjOk X.prog X.w H s.heap c (.tup [.int j,.bl k]) from I.hok c _ hc)
  obtain⟨w1,w2,rfl,⟨t,rfl⟩,w2e⟩:=Yuo vb
  cases w2e
  obtain⟨w3,w4,rfl,⟨t',rfl⟩,w4e⟩:=Yuo vc
  cases w4e
  refine Ytj (by simpa using pl.isList) (by simpa using tb) (by simpa using tc) ?_
  refine fin _ (if plt j k i p=true then [.ref c,.ref b]else [.ref b,.ref c]) ?_ (by rw[sizeLine_eq];cases plt j k i p<;>exact(by decide:2≤16777216)) (q _ fr)
  cases plt j k i p
  ·exact .cons rfl (.cons rfl .nil)
  ·exact .cons rfl (.cons rfl .nil)
theorem Yo5{G H:Hp}{d:D}{v:V}{i:Int}{p:Bool}(s:Same G H)(e:d=.tup [.int i,.bl p])(r:Rp K G d v):Yvr H v i p:=by
 subst e
 rw[Rp]at r
 obtain⟨a,xs,rfl,g,rl⟩:=r
 rw[RpL]at rl
 obtain⟨x,r',rfl,h1,h2⟩:=rl
 obtain⟨y,rfl,h3⟩:=Yhb h2
 rw[Rp]at h1
 rw[Rp]at h3
 subst h1;subst h3
 exact⟨a,rfl,s _ _ g⟩
theorem Yqz{e d:D}{k:Bool}(h:Yzk e d=some k):∃j q i p,e=.tup [.int j,.bl q]∧d=.tup [.int i,.bl p]∧k=plt j q i p:=by
 obtain⟨x,h1,h2⟩:=qa h
 obtain⟨y,h3,h4⟩:=qb h2
 exact⟨x.1,x.2,y.1,y.2,Ysm h1,Ysm h3,h4.symm⟩
theorem Yff:SemF K y4m Ynd:=by
 intro vs ds l H G Q h s r q
 unfold Ynd at h
 split at h
 ·rename_i m
  obtain⟨v,rfl,rv⟩:=Yes r
  rw[Ct]at rv
  obtain⟨a,xs,rfl,g,rl⟩:=rv
  refine⟨a,xs,rfl,g,?_⟩
  unfold Ytk at h
  split at h
  ·rename_i ns hns
   split at h
   ·rename_i h64
    cases h
    cases Ye4 hns
    refine .inl ⟨ns,Yh0 rl,h64,fun p hp=>?_⟩
    exact q p _ _ G (.hid s hp _) hp (s.free hp) y0 (.ints _)
   ·cases h
  ·split at h
   ·cases h
    refine .inr (.inl ⟨by rw[rl.length];exact qz 1,fun p hp=>?_⟩)
    exact q p _ _ G (.hid s hp _) hp (s.free hp) y0 rl
   ·rename_i d e
    obtain⟨k,h1,rfl⟩:=qb h
    obtain⟨j,y,i,x,rfl,rfl,rfl⟩:=Yqz h1
    rw[RpL]at rl
    obtain⟨v1,r1,rfl,p1,rl⟩:=rl
    obtain⟨v2,rfl,p2⟩:=Yhb rl
    refine .inr (.inr ⟨v1,v2,i,x,j,y,rfl,Yo5 s rfl p1,Yo5 s rfl p2,fun p hp=>?_⟩)
    refine q p _ _ G (.hid s hp _) hp (s.free hp) y0 ?_
    cases plt j y i x
    ·exact .cons p1 (.one p2)
    ·exact .cons p2 (.one p1)
   ·cases h
 ·cases h
end
section
variable {K:W.Frag}
theorem Yne{P:Program}{w:World}{mg:Str→Option Value}{base:Heap}{k n:Nat}{x q:Str}{ps:List Str}{st:Stmt}{a:Addr}{fd:FuncData}(F:Fun K x q st a fd)(b:Binds K fd ps [])(hm:mg x=some (.ref a))(hn:ps.length=n) :
 Okf P w K mg base k n x ps (fun _=>none):=by
 have no:∀vs H Q E,¬spOf K n (fun _=>none) vs H Q E:=fun vs H Q E h=>by
  obtain⟨_,ds,d,G,_,_,e,_⟩:=h
  cases e
 exact⟨a,fd,⟨fun vs H Q E h=>absurd h (no vs H Q E),fun A outer s H args us vs Q E _ _ _ _ h=>absurd h (no vs H Q E)⟩,b,F.kp,hm⟩
section
variable {X:Cx} {e:Expr} {f fb:Ro→Option D} {pos pos':Pos}
noncomputable def blsD:List D→Option (List Bool)
 | []=>some []
 | .bl b::l=>(blsD l).map (b::·)
 | _=>none
theorem Yo6:∀{l:List D} {bs:List Bool},blsD l=some bs→l=bs.map D.bl
 | [],bs,h=>by cases h;rfl
 | .bl i::l,bs,h=>by
   rw[blsD]at h
   obtain⟨m,h1,rfl⟩:=qb h
   rw[Yo6 h1]
   rfl
 | .non::l,ns,h=>by simp[blsD]at h
 | .int _::l,ns,h=>by simp[blsD]at h
 | .str _::l,ns,h=>by simp[blsD]at h
 | .tup _::l,ns,h=>by simp[blsD]at h
 | .lst _::l,ns,h=>by simp[blsD]at h
 | .scr _::l,ns,h=>by simp[blsD]at h
 | .dct _ _ _::l,ns,h=>by simp[blsD]at h
theorem Yvs{G:Hp}:∀{bs:List Bool} {xs:List V},RpL K G (bs.map D.bl) xs→xs=bs.map V.bl
 | [],xs,h=>by rw[List.map_nil,RpL]at h;exact h
 | n::ns,xs,h=>by
   rw[Qc,RpL]at h
   obtain⟨x,r,rfl,h1,h2⟩:=h
   rw[Rp]at h1
   rw[h1,Yvs h2]
   rfl
theorem Ynf:∀{bs:List Bool} {us:List Value},Vals (bs.map V.bl) us→us=bs.map Value.bool
 | [],us,h=>by cases h;rfl
 | b::bs,us,h=>by
   cases h with
   | cons r t=>
     cases (show _=Value.bool b from r)
     rw[Ynf t]
     rfl
theorem Yvt(bs:List Bool):((List.range bs.length).any fun i=>bs.getD i false)=bs.any id:=by
 induction bs with
 | nil=>rfl
 | cons b bs ih=>
   rw[qq,List.range_succ_eq_map,List.any_cons,List.any_map,List.any_cons]
   have:(List.range bs.length).any ((fun i=>(b::bs).getD i false) ∘ Nat.succ)=(List.range bs.length).any fun i=>bs.getD i false:=by
    congr 1
   rw[this,ih]
   rfl
theorem Yvu(bs:List Bool):((List.range bs.length).all fun i=>bs.getD i false)=bs.all id:=by
 induction bs with
 | nil=>rfl
 | cons b bs ih=>
   rw[qq,List.range_succ_eq_map,List.all_cons,List.all_map,List.all_cons]
   have:(List.range bs.length).all ((fun i=>(b::bs).getD i false) ∘ Nat.succ)=(List.range bs.length).all fun i=>bs.getD i false:=by
    congr 1
   rw[this,ih]
   rfl
noncomputable def rBls(g:List Bool→V):List V→Hp→VK→Prop:=fun vs H Q=>∃(a:Addr) (bs:List Bool),vs=[.ref a]∧Rd H a (.lst (bs.map V.bl))∧Q (g bs) H
theorem Yo7(A:Around)(prog:Program)(w:World)(bs:List Bool):TruthOf prog w A (fun i v=>((bs.map Value.bool).toArray)[i]?=some v) (fun i=>bs.getD i false):=fun i v s Q E hP hQ=>by
 have hP':(bs.map Value.bool)[i]?=some v:=by simpa using hP
 rw[Qg]at hP'
 obtain⟨b,h1,rfl⟩:=qb hP'
 refine wpAny_truthy_bool ?_
 have:bs.getD i false=b:=by simp[h1]
 rw[←this]
 exact hQ
theorem Yo8{pins:List (Addr × Obj)}{s:Shared}{σ:L2.St}{H:Hp}{a:Addr}{its:List Value}{A:Around}{E:Value→Shared→Prop}{Q:Value→Shared→Prop}(hh:A.handled=none)(hl:s.heap.IsList a its.toArray)
 (h:∀s₂,s₂={ s with heap:=s.heap.push { cls:=.type "list_iterator",data:=.fields #[.ref a,.int 0 0] } }→Walks X.prog X.w A s.heap.objs.size [s.heap.objs.size,a] [s.heap.objs.size] its.toArray.size (fun i v=>its.toArray[i]?=some v) (fun i h=>h.IsListIter s.heap.objs.size a i∧h.IsList a its.toArray)→
  (s₂.heap.IsListIter s.heap.objs.size a 0∧s₂.heap.IsList a its.toArray)→Q (.ref s.heap.objs.size) s₂):wpAny (model X.prog X.w) A (pyIter (.ref a)) Q E s:=by
 have hne:a≠s.heap.objs.size:=by
  obtain⟨o,ho,_⟩:=hl
  exact ql (qk ho)
 refine wpAny_pyIter_list hl (h _ rfl (Walks.list hh _ a hne _) ⟨⟨_,qo _ rfl,rfl,rfl⟩,?_⟩)
 obtain⟨o,ho,r⟩:=hl
 exact⟨o,qd _ ho,r⟩
theorem Yja{pins:List (Addr × Obj)}{s:Shared}{σ:L2.St}{H:Hp}{h':Heap}{tk:Nat}{o:Obj}(I:Inv X pins σ H s)(k:∀b u,b∉[s.heap.objs.size]→(s.heap.push o).get? b=some u→h'.get? b=some u):Inv X pins σ H { s with heap:=h',toks:=tk }:=
 I.kept fun b u q=>k b u (by
  intro z
  have e:b=s.heap.objs.size:=by simpa using z
  exact absurd (qk q) (by rw[e];exact Qi _)) (qd _ q)
theorem Yo9(hc:X.calm=true):Ydx X (.builtin "any") (rBls fun bs=>.bl (bs.any id)):=by
 intro pins s σ H xs us Q I r h
 obtain⟨a,bs,rfl,hr,q⟩:=h
 obtain⟨u,rfl,ru⟩:=Yhu r
 cases ru
 obtain⟨its,rv,pl,hz⟩:=I.list (.inl hr)
 cases Ynf rv
 refine call_any_walk (Yo8 (X:=X) (pins:=pins) (σ:=σ) (H:=H) (show X.A.in1.handled=none from I.ok.hd hc) pl.isList fun s₂ e W st=>?_)
 subst e
 refine⟨_,_,_,_,_,_,fun i=>bs.getD i false,rfl,W,st,Yo7 _ _ _ bs,fun h' tk k=>⟨.bl _,H,(show Inv X pins σ H { s with heap:=h',toks:=tk } from Yja I k),?_,q⟩⟩
 show Value.bool _=Value.bool _
 rw[qj,qe,Yvt]
theorem Ydd(hc:X.calm=true):Ydx X (.builtin "all") (rBls fun bs=>.bl (bs.all id)):=by
 intro pins s σ H xs us Q I r h
 obtain⟨a,bs,rfl,hr,q⟩:=h
 obtain⟨u,rfl,ru⟩:=Yhu r
 cases ru
 obtain⟨its,rv,pl,hz⟩:=I.list (.inl hr)
 cases Ynf rv
 refine call_all_walk (Yo8 (X:=X) (pins:=pins) (σ:=σ) (H:=H) (show X.A.in1.handled=none from I.ok.hd hc) pl.isList fun s₂ e W st=>?_)
 subst e
 refine⟨_,_,_,_,_,_,fun i=>bs.getD i false,rfl,W,st,Yo7 _ _ _ bs,fun h' tk k=>⟨.bl _,H,(show Inv X pins σ H { s with heap:=h',toks:=tk } from Yja I k),?_,q⟩⟩
 show Value.bool _=Value.bool _
 rw[qj,qe,Yvu]
noncomputable def anyC:List D→Option D
 | [.lst l]=>(blsD l).map fun bs=>.bl (bs.any id)
 | _=>none
noncomputable def allC:List D→Option D
 | [.lst l]=>(blsD l).map fun bs=>.bl (bs.all id)
 | _=>none
theorem Yvv{g:List Bool→V}{gd:List Bool→D}{m:List D→Option D}(hm:∀ds d,m ds=some d→∃l bs,ds=[.lst l]∧blsD l=some bs∧d=gd bs)(hg:∀G bs,Rp K G (gd bs) (g bs)):SemC K (rBls g) m:=by
 intro vs ds d H G Q h s r q
 obtain⟨l,bs,rfl,h1,rfl⟩:=hm ds d h
 obtain⟨v,rfl,rv⟩:=Yes r
 rw[Ct]at rv
 obtain⟨a,xs,rfl,g',rl⟩:=rv
 cases Yo6 h1
 cases Yvs rl
 exact⟨a,bs,rfl,g',q _ H G (.refl s) (hg G bs)⟩
theorem Yvw:SemC K (rBls fun bs=>.bl (bs.any id)) anyC:=Yvv (gd:=fun bs=>.bl (bs.any id)) (fun ds d h=>by
 unfold anyC at h
 split at h
 ·obtain⟨bs,h1,rfl⟩:=qb h
  exact⟨_,bs,rfl,h1,rfl⟩
 ·cases h) fun G bs=>by rw[Rp]
theorem Yf2:SemC K (rBls fun bs=>.bl (bs.all id)) allC:=Yvv (gd:=fun bs=>.bl (bs.all id)) (fun ds d h=>by
 unfold allC at h
 split at h
 ·obtain⟨bs,h1,rfl⟩:=qb h
  exact⟨_,bs,rfl,h1,rfl⟩
 ·cases h) fun G bs=>by rw[Rp]
end
end
section
variable {K:W.Frag}
section
variable {prog:Program} {w:World} {A:Around} {E:Value→Shared→Prop} {s:Shared}
theorem Yit{it t:Addr}{i:Nat}{items:Array Value}{x:Value}{Q:Value→Shared→Prop}(hit:s.heap.IsTupleIter it t i)
 (ht:s.heap.IsTuple t items) (hx:items[i]?=some x)
 (hQ:∀h',h'.IsTupleIter it t (i+1)→Heap.SameBut it s.heap h'→Q x { s with heap:=h' }) :
 wpAny (model prog w) A (Builtin.SmallTypes.nextOf (.ref it)) Q E s:=by
 obtain⟨o,ho,hc,hd⟩:=id hit
 obtain⟨ol,hol,_,nl,hdl⟩:=ht
 unfold Builtin.SmallTypes.nextOf
 refine wpAny_bind (wpAny_callSpecial?_slot (name:=Str.ofString "__next__") hit.typeIs F.slot_tuple_iterator_next
  (wpAny_call_entry F.slot_tuple_iterator_next hit.typeIs F.entry_tuple_iterator_next ?_ (F.args_tuple_iterator_next_1 _)))
 show wpAny _ _ (field (.ref it) 0 >>= _) _ _ s
 refine wpAny_bind (wpAny_field ho hd (x:=.ref t) rfl ?_)
 show wpAny _ _ (if (Value.ref t==Value.none)=true then _ else _) _ _ s
 rw[if_neg (show ¬((Value.ref t==Value.none)=true) from qh)]
 show wpAny _ _ (field (.ref it) 1 >>= _) _ _ s
 refine wpAny_bind (wpAny_field ho hd (x:=.int i 0) rfl ?_)
 show wpAny _ _ (seqItems? (.ref t) >>= _) _ _ s
 refine wpAny_bind (wpAny_seqItems hol hdl ?_)
 simp only[Int.toNat_natCast,hx]
 refine wpAny_bind (wpAny_setField ho hd (by simp) (wpAny_pure ⟨x,rfl,wpAny_pure (hQ _ ?_ (Heap.SameBut.update ..))⟩))
 exact⟨_,Heap.get?_update_self _ ho (Obj.isFreed_of_fields (Obj.data_mapFields hd _)),(Obj.cls_mapFields ..).trans hc,by
  rw[Obj.data_mapFields hd];simp[rawInt]⟩
theorem Yje{it l:Addr}{i:Nat}{items:Array Value}{Q:Value→Shared→Prop}(hh:A.handled=none)
 (hit:s.heap.IsTupleIter it l i) (hl:s.heap.IsTuple l items) (hx:items[i]?=none)
 (hE:∀h' e,Heap.ExtBut it s.heap h'→(∃o,h'.get? e=some o∧o.cls=.type "StopIteration")→E (.ref e) { s with heap:=h' }) :
 wpAny (model prog w) A (Builtin.SmallTypes.nextOf (.ref it)) Q E s:=by
 obtain⟨o,ho,hc,hd⟩:=id hit
 obtain⟨ol,hol,_,nl,hdl⟩:=hl
 unfold Builtin.SmallTypes.nextOf
 refine wpAny_bind (wpAny_callSpecial?_slot (name:=Str.ofString "__next__") hit.typeIs F.slot_tuple_iterator_next
  (wpAny_call_entry F.slot_tuple_iterator_next hit.typeIs F.entry_tuple_iterator_next ?_ (F.args_tuple_iterator_next_1 _)))
 show wpAny _ _ (field (.ref it) 0 >>= _) _ _ s
 refine wpAny_bind (wpAny_field ho hd (x:=.ref l) rfl ?_)
 show wpAny _ _ (if (Value.ref l==Value.none)=true then _ else _) _ _ s
 rw[if_neg (show ¬((Value.ref l==Value.none)=true) from qh)]
 show wpAny _ _ (field (.ref it) 1 >>= _) _ _ s
 refine wpAny_bind (wpAny_field ho hd (x:=.int i 0) rfl ?_)
 show wpAny _ _ (seqItems? (.ref l) >>= _) _ _ s
 refine wpAny_bind (wpAny_seqItems hol hdl ?_)
 simp only[Int.toNat_natCast,hx]
 refine wpAny_bind (wpAny_rule (wpAny_bind (wpAny_setField ho hd (by simp) ?_)))
 show wpAny _ _ (newExc (.type "StopIteration") [] >>= _) _ _ _
 refine wpAny_bind ?_
 simp only[newExc,newTuple]
 refine wpAny_bind (wpAny_newObj_type ?_ (by size_fits))
 refine wpAny_bind (m:=firstArgMember _ _) (wpAny_of_eq (a:=Value.none) (by first | rfl | (simp only[firstArgMember];rfl)) ?_)
 refine wpAny_newObj_type ?_ (by size_fits)
 simp only[raiseNew]
 refine wpAny_bind (wpAny_handled ?_)
 first | rw[show A.in1.handled=none from hh] | rw[hh]
 refine wpAny_bind (wpAny_pure (wpAny_throw ?_))
 exact hE _ _ (((Heap.SameBut.update ..).extBut.push _).push _) ⟨_,qo _ rfl,rfl⟩
theorem Ykd{e it l:Addr}{i:Nat}{items:Array Value}{x old:Value}{Q:Value→Shared→Prop}
 (he:IsEnum s.heap e it i old) (hit:s.heap.IsTupleIter it l i) (hl:s.heap.IsTuple l items) (hx:items[i]?=some x) (hne:e≠it)
 (hQ:∀h',IsEnumOut h' e it ((i:Int)+1) x s.heap.objs.size→h'.IsTupleIter it l (i+1)→
  h'.get? s.heap.objs.size=some { cls:=.type "tuple",data:=.seq #[.int i s.toks,x] }→h'.objs.size=s.heap.objs.size+1→
  (∀b o,b≠e→b≠it→s.heap.get? b=some o→h'.get? b=some o)→Q (.ref s.heap.objs.size) { s with heap:=h',toks:=s.toks+1 }) :
 wpAny (model prog w) A (Builtin.«enumerate.__next__» ⟨[.ref e],[]⟩) (fun fin s'=>∃v,fin=.done (.ret v)∧Q v s') E s:=by
 obtain⟨hp,g,d,tk,os⟩:=s
 show wpAny _ _ (field (.ref e) 2 >>= _) _ _ _
 refine wpAny_bind (wpAny_field he rfl (x:=.ref it) rfl ?_)
 refine wpAny_bind (Yit hit hl hx fun h₁ hit₁ hs₁=>?_)
 replace hs₁:Heap.SameBut it hp h₁:=hs₁
 have he₁:IsEnum h₁ e it i old:=(hs₁.2 e hne).trans he
 show wpAny _ _ (field (.ref e) 3 >>= _) _ _ ⟨h₁,g,d,tk,os⟩
 refine wpAny_bind (wpAny_field he₁ rfl (x:=rawInt i) rfl ?_)
 show wpAny _ _ (field (.ref e) 4 >>= _) _ _ ⟨h₁,g,d,tk,os⟩
 refine wpAny_bind (wpAny_field he₁ rfl (x:=.none) rfl ?_)
 show wpAny _ _ (mkInt i >>= _) _ _ ⟨h₁,g,d,tk,os⟩
 refine wpAny_bind (wpAny_mkInt ?_)
 show wpAny _ _ (setField (.ref e) 3 (rawInt ((i:Int)+1)) >>= _) _ _ ⟨h₁,g,d,tk+1,os⟩
 refine wpAny_bind (wpAny_setField_rec he₁ (by simp) fun h₂ he₂ hs₂=>?_)
 replace hs₂:Heap.SameBut e h₁ h₂:=hs₂
 replace he₂:IsEnum h₂ e it ((i:Int)+1) old:=he₂
 show wpAny _ _ (setField (.ref e) 4 .none >>= _) _ _ ⟨h₂,g,d,tk+1,os⟩
 refine wpAny_bind (wpAny_setField_rec he₂ (by simp) fun h₃ he₃ hs₃=>?_)
 replace hs₃:Heap.SameBut e h₂ h₃:=hs₃
 replace he₃:IsEnum h₃ e it ((i:Int)+1) old:=he₃
 show wpAny _ _ (newTuple [.int i tk,x] >>= _) _ _ ⟨h₃,g,d,tk+1,os⟩
 refine wpAny_bind (wpAny_newTuple ?_)
 have he₄:IsEnum (h₃.push { cls:=.type "tuple",data:=.seq #[.int i tk,x] }) e it ((i:Int)+1) old:=qd _ he₃
 generalize hh₄:h₃.push { cls:=.type "tuple",data:=.seq #[.int i tk,x] }=h₄ at he₄
 have hsz:h₃.objs.size=hp.objs.size:=by rw[hs₃.1,hs₂.1,hs₁.1]
 have hel:e < hp.objs.size:=qk he
 have ht₄:h₄.get? hp.objs.size=some { cls:=.type "tuple",data:=.seq #[.int i tk,x] }:=by rw[←hh₄,←hsz];exact qo _ rfl
 have hz₄:h₄.objs.size=hp.objs.size+1:=by rw[←hh₄,Heap.size_push,hsz]
 have hk₄:∀b o,b≠e→b≠it→hp.get? b=some o→h₄.get? b=some o:=fun b o hbe hbi hb=>by
  rw[←hh₄];exact qd _ (hs₃.extBut b o hbe (hs₂.extBut b o hbe (hs₁.extBut b o hbi hb)))
 have hit₄:h₄.IsTupleIter it l (i+1):=by
  rw[←hh₄];obtain⟨o,ho,r⟩:=(hit₁.at fun o q=>hs₃.extBut it o (Ne.symm hne) (hs₂.extBut it o (Ne.symm hne) q));exact⟨o,qd _ ho,r⟩
 show wpAny _ _ (Builtin.SmallTypes.ownedTupleIsFree (.ref e) >>= _) _ _ ⟨h₄,g,d,tk+1,os⟩
 rw[hsz]
 clear hh₄ he₃ hs₃ he₂ hs₂ he₁ hs₁ hit₁ hsz h₃ h₂ h₁
 refine wpAny_bind ?_
 ·unfold Builtin.SmallTypes.ownedTupleIsFree
  refine wpAny_bind (wpAny_field he₄ rfl (x:=.none) rfl (wpAny_pure ?_))
  simp only[if_true]
  refine wpAny_bind (wpAny_rule ?_)
  refine wpAny_bind (wpAny_field he₄ rfl (x:=old) rfl ?_)
  refine wpAny_bind (wpAny_setField_rec he₄ (by simp) fun h₅ he₅ hs₅=>?_)
  replace hs₅:Heap.SameBut e h₄ h₅:=hs₅
  replace he₅:IsEnum h₅ e it ((i:Int)+1) x:=he₅
  show wpAny _ _ (Builtin.SmallTypes.ownedTupleHandOut (.ref e) (.ref hp.objs.size) >>= _) _ _ ⟨h₅,g,d,tk+1,os⟩
  refine wpAny_bind ?_
  ·unfold Builtin.SmallTypes.ownedTupleHandOut
   refine wpAny_bind (wpAny_setField_rec he₅ (by simp) fun h₆ he₆ hs₆=>?_)
   replace hs₆:Heap.SameBut e h₅ h₆:=hs₆
   replace he₆:IsEnumOut h₆ e it ((i:Int)+1) x hp.objs.size:=he₆
   refine wpAny_setField_rec he₆ (by simp) fun h₇ he₇ hs₇=>?_
   replace hs₇:Heap.SameBut e h₆ h₇:=hs₇
   replace he₇:IsEnumOut h₇ e it ((i:Int)+1) x hp.objs.size:=he₇
   refine wpAny_bind (wpAny_letGo (wpAny_pure ⟨_,rfl,hQ h₇ he₇ ?_ ?_ ?_ ?_⟩))
   ·exact hit₄.at fun o q=>hs₇.extBut it o (Ne.symm hne) (hs₆.extBut it o (Ne.symm hne) (hs₅.extBut it o (Ne.symm hne) q))
   ·exact hs₇.extBut _ _ (Nat.ne_of_gt hel) (hs₆.extBut _ _ (Nat.ne_of_gt hel) (hs₅.extBut _ _ (Nat.ne_of_gt hel) ht₄))
   ·rw[hs₇.1,hs₆.1,hs₅.1,hz₄]
   ·exact fun b o hbe hbi hb=>hs₇.extBut b o hbe (hs₆.extBut b o hbe (hs₅.extBut b o hbe (hk₄ b o hbe hbi hb)))
theorem Yiu{e it l:Addr}{i:Nat}{items:Array Value}{x old:Value}{Q:Option Value→Shared→Prop}
 (he:IsEnum s.heap e it i old) (hit:s.heap.IsTupleIter it l i) (hl:s.heap.IsTuple l items) (hx:items[i]?=some x) (hne:e≠it)
 (hQ:∀h',IsEnumOut h' e it ((i:Int)+1) x s.heap.objs.size→h'.IsTupleIter it l (i+1)→
  h'.get? s.heap.objs.size=some { cls:=.type "tuple",data:=.seq #[.int i s.toks,x] }→h'.objs.size=s.heap.objs.size+1→
  (∀b o,b≠e→b≠it→s.heap.get? b=some o→h'.get? b=some o)→Q (some (.ref s.heap.objs.size)) { s with heap:=h',toks:=s.toks+1 }) :
 wpAny (model prog w) A (pyNext (.ref e)) Q E s:=by
 have hT:s.TypeIs (.ref e) "enumerate":=⟨_,he,rfl⟩
 unfold pyNext
 exact wpAny_bind (wpAny_attempt (wpAny_callSpecial?_slot (name:=Str.ofString "__next__") hT F.slot_enumerate_next
  (wpAny_call_entry F.slot_enumerate_next hT F.entry_enumerate_next
   (Ykd he hit hl hx hne fun h' a b c d k=>wpAny_pure (hQ h' a b c d k)) (F.args_enumerate_next_1 _))))
theorem Yjf{e it l:Addr}{i:Nat}{items:Array Value}{old:Value}{Q:Option Value→Shared→Prop}(hh:A.handled=none)
 (he:IsEnum s.heap e it i old) (hit:s.heap.IsTupleIter it l i) (hl:s.heap.IsTuple l items) (hx:items[i]?=none)
 (hQ:∀h',Heap.ExtBut it s.heap h'→Q none { s with heap:=h' }):wpAny (model prog w) A (pyNext (.ref e)) Q E s:=by
 have hT:s.TypeIs (.ref e) "enumerate":=⟨_,he,rfl⟩
 unfold pyNext
 refine wpAny_bind (wpAny_attempt (wpAny_callSpecial?_slot (name:=Str.ofString "__next__") hT F.slot_enumerate_next
  (wpAny_call_entry F.slot_enumerate_next hT F.entry_enumerate_next ?_ (F.args_enumerate_next_1 _))))
 show wpAny _ _ (field (.ref e) 2 >>= _) _ _ _
 refine wpAny_bind (wpAny_field he rfl (x:=.ref it) rfl ?_)
 refine wpAny_bind (Yje hh hit hl hx fun h' x he' hx'=>?_)
 obtain⟨o,ho,hc⟩:=hx'
 refine wpAny_bind (wpAny_isInstance (T:="StopIteration") (b:=true) ⟨o,ho,hc⟩ isSubtype_stop ?_)
 exact wpAny_pure (hQ _ he')
theorem Yke(l:Addr)(items:Array Value)(n:Nat)(dct:Option Addr)(sl:Array (Option Value)) :
 Meets (Builtin.«enumerate.__new__» ⟨[.type "enumerate",.ref l],[]⟩) (fun _ R s=>s.heap.get? l=some { cls:=.type "tuple",dict:=dct,data:=.seq items n,slots:=sl }∧
  R (.ok (.ret (.ref (s.heap.push { cls:=.type "tuple_iterator",data:=.fields #[.ref l,.int 0 0] }).objs.size)))
   { s with heap:=(s.heap.push { cls:=.type "tuple_iterator",data:=.fields #[.ref l,.int 0 0] }).push { cls:=.type "enumerate",data:=.fields #[.none,.bool false,.ref s.heap.objs.size,rawInt 0,.none,.none] } }):=
 .of_wp fun prog w A R s h=>by
  obtain⟨hp,g,d,tk,os⟩:=s;obtain⟨hl,h⟩:=h
  have hsub:=sub_enumerate
  have hL:Heap.IsTuple (Shared.heap ⟨hp,g,d,tk,os⟩) l items:=⟨_,hl,rfl,n,rfl⟩
  wp_walk using PySem.AutoSeq1.wpAny_loadPart' hl
  refine wpAny_stack_any fun st=>wpAny_pure ?_
  split
  ·rename_i c _ _ _ _ _
   cases (c==Value.type "enumerate")
   ·wp_walk using PySem.AutoSeq1.wpAny_loadPart' hl,wpAny_pyIter_tuple hL
    exact⟨_,rfl,h⟩
   ·wp_walk using PySem.AutoSeq1.wpAny_loadPart' hl,wpAny_pyIter_tuple hL
    exact⟨_,rfl,h⟩
  ·wp_walk using PySem.AutoSeq1.wpAny_loadPart' hl,wpAny_pyIter_tuple hL
   exact⟨_,rfl,h⟩
theorem Ygv{l:Addr}{items:Array Value}{Q:Value→Shared→Prop}(hL:s.heap.IsTuple l items)
 (h:∀h',IsEnum h' (s.heap.objs.size+1) s.heap.objs.size 0 .none→h'.IsTupleIter s.heap.objs.size l 0→h'.objs.size=s.heap.objs.size+2→
  (∀b o,s.heap.get? b=some o→h'.get? b=some o)→Q (.ref (s.heap.objs.size+1)) { s with heap:=h' }) :
 wpAny (model prog w) A (call (.type "enumerate") [.ref l]) Q E s:=by
 obtain⟨⟨c,dct,dt,sl⟩,hl,hc,n,hd⟩:=hL
 replace hc:c=.type "tuple":=hc
 replace hd:dt=.seq items n:=hd
 subst hc hd
 refine callType_new F.called_enumerate (by decide) (F.typeCall_enumerate_1 _) (F.newCall_enumerate_1 _) (fun obj=>F.args_object_init_2 obj _) F.entry_enumerate_new
  (Yke l items n dct sl) ⟨hl,?_⟩
 have hz:(s.heap.push { cls:=.type "tuple_iterator",data:=.fields #[.ref l,.int 0 0] }).objs.size=s.heap.objs.size+1:=Heap.size_push ..
 show _∧_
 rw[hz]
 have he:IsEnum ((s.heap.push { cls:=.type "tuple_iterator",data:=.fields #[.ref l,.int 0 0] }).push
  { cls:=.type "enumerate",data:=.fields #[.none,.bool false,.ref s.heap.objs.size,rawInt 0,.none,.none] }) (s.heap.objs.size+1) s.heap.objs.size 0 .none:=by
  have:=qo (s.heap.push { cls:=.type "tuple_iterator",data:=.fields #[.ref l,.int 0 0] })
   (o:={ cls:=.type "enumerate",data:=.fields #[.none,.bool false,.ref s.heap.objs.size,rawInt 0,.none,.none] }) rfl
  rw[hz]at this;exact this
 refine⟨⟨_,he,rfl⟩,h _ he ⟨_,qd _ (qo _ rfl),rfl,rfl⟩ (by rw[Heap.size_push,hz]) fun b o x=>qd _ (qd _ x)⟩
end
theorem Yh1{X:Cx}{pins:List (Addr × Obj)}{σ:L2.St}{H:Hp}{s:Shared}{h':Heap}{t':Nat}{ch:List Addr}{T:Addr}{o:HO}(I:Inv X pins σ H s)(hf:∀b∈ch,FpOk X pins H b)
 (k:∀b u,b∉ch→s.heap.get? b=some u→h'.get? b=some u) (hT:s.heap.objs.size≤T) (new:ObjOk X.prog X.w (upd H T o) h' T o):Inv X pins σ (upd H T o) { s with heap:=h',toks:=t' }:=by
 have fr:H T=none:=I.hok.fresh hT
 have nch:∀b u,H b=some u→b∉ch:=fun b u e z=>by rw[(hf b z).1]at e;cases e
 refine I.step (g':=s.gens) (d':=s.drawn) (ch:=ch) (fun b hb=>?_) (fun b u _ _ hc e _=>k b u hc e) (fun b u _ _ hc e _=>⟨u.slots,k b u hc e⟩) (fun b u _ e n=>?_)
  (fun b u hc e=>⟨u,k b u hc e⟩) (fun b xs e=>?_) (fun b u xs e=>?_) (fun b ps e=>⟨#[],?_⟩) (fun m hm=>?_) (fun b u e=>?_) I.bare
 ·obtain⟨_,f1,_,f3,f4,f5⟩:=hf b hb
  exact⟨f3,f1,f4,f5⟩
 ·rw[y4 (ql (Qh (qk e) hT))];exact n
 ·rw[y4 (y3 e fr)];exact e
 ·rw[y4 (y3 e fr)];exact e
 ·rw[y4 (y3 e fr),e];simp
 ·obtain⟨ob,es,ep,ho,r⟩:=hm
  exact⟨ob,es,ep,k _ ob (fun z=>(hf _ z).2.1 rfl) ho,r⟩
 ·by_cases hb:b=T
  ·subst hb;rw[y0]at e;cases e;exact new
  ·rw[y4 hb]at e
   refine(I.hok b u e).stay (fun c v hc q=>k c v ?_ q) (fun c q=>by rw[y4 (y3 q fr)];exact q) fun c xs q=>by rw[y4 (y3 q fr)];exact q
   rcases hc with z | z
   ·rw[z];exact nch b u e
   ·exact nch c _ z
noncomputable def IteL(K:W.Frag)(a:Addr):It:=
 ⟨fun i H=>∃xs x,SqL K H a xs∧xs[i]?=some x,fun i H x H'=>∃y p,(∀xs,SqL K H a xs→xs[i]?=some y)∧H p=none∧x=.ref p∧H'=upd H p (.tup [.int i,y]),fun i H=>∃xs,SqL K H a xs∧xs.length≤i⟩
noncomputable def IteT(K:W.Frag)(a:Addr):It:=
 ⟨fun i H=>∃xs x,SqT K H a xs∧xs[i]?=some x,fun i H x H'=>∃y p,(∀xs,SqT K H a xs→xs[i]?=some y)∧H p=none∧x=.ref p∧H'=upd H p (.tup [.int i,y]),fun i H=>∃xs,SqT K H a xs∧xs.length≤i⟩
section
variable {elts:List Expr} {x1:Nat} {pt:Pos}
theorem Ytl{P:Program}{w:World}(a it e:Addr)(hei:e≠it):Turn P w K (.Tuple elts x1 pt) (IteL K a) [e,it] e (fun i h=>(∃old,IsEnum h e it i old)∧h.IsListIter it a i) where
 mem:=by simp
 obj:=fun i h st b hb=>by
  obtain⟨⟨old,he⟩,hit⟩:=st
  rcases qr hb with rfl | hb
  ·exact⟨_,he,fun v z=>by cases z⟩
  ·have z:b=it:=by simpa using hb
   subst z
   obtain⟨o,q,c,d⟩:=hit
   exact⟨o,q,fun v z=>by rw[d]at z;cases z⟩
 keep:=fun i h h' st k=>by
  obtain⟨⟨old,he⟩,hit⟩:=st
  exact⟨⟨old,k e (by simp) _ he⟩,hit.at fun o q=>k it (by simp) o q⟩
 item:=by
  intro X hP hw hK hc i pins s σ H E I hf st hg
  subst hP hw hK
  obtain⟨xs,x,hq,hx⟩:=hg
  obtain⟨its,rv,p,hz⟩:=I.list hq
  obtain⟨u,hu,ru⟩:=rv.get hx
  obtain⟨⟨old,he⟩,hit⟩:=st
  refine wpAny_pyNext_enum_item he hit p.isList (x:=u) (by simpa using hu) hei fun h' ho hit' hT hsz hk=>?_
  refine⟨_,rfl,wpAny_letOwnedTupleGo_enum ho fun h2 he2 hs2=>?_⟩
  have fr:H s.heap.objs.size=none:=I.fresh
  have hne:∀b∈[e,it],b≠s.heap.objs.size:=fun b hb z=>by
   rcases qr hb with rfl | hb
   ·exact absurd (qk he) (by rw[z];exact Qi _)
   ·have z2:b=it:=by simpa using hb
    subst z2
    obtain⟨o,q,_⟩:=hit
    exact absurd (qk q) (by rw[z];exact Qi _)
  have kk:∀b o,b∉[e,it]→s.heap.get? b=some o→h2.get? b=some o:=fun b o hb q=>by
   have h1:b≠e:=fun z=>hb (by simp[z])
   have h3:b≠it:=fun z=>hb (by simp[z])
   exact(hs2.2 b h1).trans (hk b o h1 h3 q)
  have tT:h2.get? s.heap.objs.size=some { cls:=.type "tuple",data:=.seq #[.int i s.toks,u] }:=(hs2.2 _ (Ne.symm (hne e (by simp)))).trans hT
  refine⟨.ref s.heap.objs.size,upd H s.heap.objs.size (.tup [.int i,x]),(show Inv X pins σ _ { s with heap:=h2,toks:=s.toks+1 } from Yh1 (s:=s) (t':=s.toks+1) I hf kk (qt _) ?_),rfl,⟨x,s.heap.objs.size,fun ys hy=>by rw[I.list_inj hy hq];exact hx,fr,rfl,rfl⟩,⟨⟨_,by simpa using he2⟩,hit'.at fun o q=>(hs2.2 it (Ne.symm hei)).trans q⟩,fun b hb=>?_⟩
  ·exact⟨by rw[sizeLine_eq];show 2≤16777216;decide,[.int i s.toks,u],.cons ⟨_,rfl⟩ (.cons ru .nil),_,tT,rfl,0,rfl⟩
  ·rw[y4 (hne b hb)];exact(hf b hb).1
 done:=by
  intro X hP hw hK hc i pins s σ H E I hf st hg
  subst hP hw hK
  obtain⟨xs,hq,hx⟩:=hg
  obtain⟨its,rv,p,hz⟩:=I.list hq
  obtain⟨⟨old,he⟩,hit⟩:=st
  obtain⟨f0,f1,f2,f3,f4,f5⟩:=hf it (by simp)
  have hl:=rv.length
  exact wpAny_pyNext_enum_end (I.ok.hd hc) he hit p.isList (by simp;lia) fun h' eb=>⟨rfl,I.turned (t':=s.toks) (fun b o hb e=>eb b o hb e) f0 f1 f3 f4 f5⟩
 self:=fun _ _ _ _ _ st h=>let ⟨⟨_,he⟩,_⟩:=st;wpAny_pyIter_enum he h
theorem Ytm{P:Program}{w:World}(a it e:Addr)(hei:e≠it):Turn P w K (.Tuple elts x1 pt) (IteT K a) [e,it] e (fun i h=>(∃old,IsEnum h e it i old)∧h.IsTupleIter it a i) where
 mem:=by simp
 obj:=fun i h st b hb=>by
  obtain⟨⟨old,he⟩,hit⟩:=st
  rcases qr hb with rfl | hb
  ·exact⟨_,he,fun v z=>by cases z⟩
  ·have z:b=it:=by simpa using hb
   subst z
   obtain⟨o,q,c,d⟩:=hit
   exact⟨o,q,fun v z=>by rw[d]at z;cases z⟩
 keep:=fun i h h' st k=>by
  obtain⟨⟨old,he⟩,hit⟩:=st
  exact⟨⟨old,k e (by simp) _ he⟩,hit.at fun o q=>k it (by simp) o q⟩
 item:=by
  intro X hP hw hK hc i pins s σ H E I hf st hg
  subst hP hw hK
  obtain⟨xs,x,hq,hx⟩:=hg
  obtain⟨its,rv,p,hz⟩:=I.tuple hq
  obtain⟨u,hu,ru⟩:=rv.get hx
  obtain⟨⟨old,he⟩,hit⟩:=st
  refine Yiu he hit (show s.heap.IsTuple a its.toArray from p) (x:=u) (by simpa using hu) hei fun h' ho hit' hT hsz hk=>?_
  refine⟨_,rfl,wpAny_letOwnedTupleGo_enum ho fun h2 he2 hs2=>?_⟩
  have fr:H s.heap.objs.size=none:=I.fresh
  have hne:∀b∈[e,it],b≠s.heap.objs.size:=fun b hb z=>by
   rcases qr hb with rfl | hb
   ·exact absurd (qk he) (by rw[z];exact Qi _)
   ·have z2:b=it:=by simpa using hb
    subst z2
    obtain⟨o,q,_⟩:=hit
    exact absurd (qk q) (by rw[z];exact Qi _)
  have kk:∀b o,b∉[e,it]→s.heap.get? b=some o→h2.get? b=some o:=fun b o hb q=>by
   have h1:b≠e:=fun z=>hb (by simp[z])
   have h3:b≠it:=fun z=>hb (by simp[z])
   exact(hs2.2 b h1).trans (hk b o h1 h3 q)
  have tT:h2.get? s.heap.objs.size=some { cls:=.type "tuple",data:=.seq #[.int i s.toks,u] }:=(hs2.2 _ (Ne.symm (hne e (by simp)))).trans hT
  refine⟨.ref s.heap.objs.size,upd H s.heap.objs.size (.tup [.int i,x]),(show Inv X pins σ _ { s with heap:=h2,toks:=s.toks+1 } from Yh1 (s:=s) (t':=s.toks+1) I hf kk (qt _) ?_),rfl,⟨x,s.heap.objs.size,fun ys hy=>by rw[I.tuple_inj hy hq];exact hx,fr,rfl,rfl⟩,⟨⟨_,by simpa using he2⟩,hit'.at fun o q=>(hs2.2 it (Ne.symm hei)).trans q⟩,fun b hb=>?_⟩
  ·exact⟨by rw[sizeLine_eq];show 2≤16777216;decide,[.int i s.toks,u],.cons ⟨_,rfl⟩ (.cons ru .nil),_,tT,rfl,0,rfl⟩
  ·rw[y4 (hne b hb)];exact(hf b hb).1
 done:=by
  intro X hP hw hK hc i pins s σ H E I hf st hg
  subst hP hw hK
  obtain⟨xs,hq,hx⟩:=hg
  obtain⟨its,rv,p,hz⟩:=I.tuple hq
  obtain⟨⟨old,he⟩,hit⟩:=st
  obtain⟨f0,f1,f2,f3,f4,f5⟩:=hf it (by simp)
  have hl:=rv.length
  exact Yjf (I.ok.hd hc) he hit (show s.heap.IsTuple a its.toArray from p) (by simp;lia) fun h' eb=>⟨rfl,I.turned (t':=s.toks) (fun b o hb e=>eb b o hb e) f0 f1 f3 f4 f5⟩
 self:=fun _ _ _ _ _ st h=>let ⟨⟨_,he⟩,_⟩:=st;wpAny_pyIter_enum he h
variable {X:Cx} {pos:Pos}
noncomputable def y6v(K:W.Frag)(ta:TA):TI:=fun σ H R=>ta σ H fun vs H1=>∃a xs,vs=[.ref a]∧((SqL K H1 a xs∧(xs.length≤sizeLine→R (IteL K a) H1))∨(SqT K H1 a xs∧(xs.length≤sizeLine→R (IteT K a) H1)))
theorem y08{l:Expr}{ta:TA}{p:Pos}(hg:Gl X "enumerate")(hm:X.mg "enumerate"=none)(ha:PA X [l] ta)(hs:starEach [l] X.env=[(false,eval l X.env)]:=by rfl):PI X (.Tuple elts x1 pt) (.Call (.Name "enumerate" p) [l] [] pos) (y6v X.K ta):=by
 intro pins s σ H R I h
 refine Call_ (Ymc I hg hm boot_enumerate (PyProof.Rows.callWith_type1 (thn (ha pos pins s σ H _ I h) fun us s1 hx_=>?_) hs rfl))
 obtain⟨vs,H1,I1,r1,q1⟩:=hx_
 obtain⟨a,xs,rfl,q⟩:=q1
 obtain⟨u,rfl,ru⟩:=Yhu r1
 cases ru
 have fin:∀(h':Heap),h'.objs.size=s1.heap.objs.size+2→(∀b o,s1.heap.get? b=some o→h'.get? b=some o)→∀b∈[s1.heap.objs.size+1,s1.heap.objs.size],FpOk X pins H1 b:=fun h' hz hk b hb=>by
  have hb':s1.heap.objs.size≤b:=by
   rcases qr hb with rfl | hb
   ·exact Nat.le_succ _
   ·have:b=s1.heap.objs.size:=by simpa using hb
    lia
  exact I1.fpOk hb' (I1.hok.fresh hb')
 rcases q with⟨hq,q⟩ | ⟨hq,q⟩
 ·obtain⟨its,rv,pl,hz⟩:=I1.list hq
  refine call_enumerate_list pl.isList fun h' he hit hsz hk=>wpAny_pyIter_enum (s:={ s1 with heap:=h' }) he ?_
  exact⟨_,[s1.heap.objs.size+1,s1.heap.objs.size],_,_,H1,rfl,I1.kept (t':=s1.toks) hk,Ytl a s1.heap.objs.size _ (Nat.succ_ne_self _),⟨⟨_,he⟩,hit⟩,fin h' hsz hk,q hz⟩
 ·obtain⟨its,rv,pl,hz⟩:=I1.tuple hq
  refine Ygv (show s1.heap.IsTuple a its.toArray from pl) fun h' he hit hsz hk=>wpAny_pyIter_enum (s:={ s1 with heap:=h' }) he ?_
  exact⟨_,[s1.heap.objs.size+1,s1.heap.objs.size],_,_,H1,rfl,I1.kept (t':=s1.toks) hk,Ytm a s1.heap.objs.size _ (Nat.succ_ne_self _),⟨⟨_,he⟩,hit⟩,fin h' hsz hk,q hz⟩
noncomputable def Ykf(l:List D):List D:=(List.range l.length).map fun i:Nat=>.tup [.int (i:Int),l.getD i .non]
noncomputable def Ylq(c:D):Option (List D):=(Yr c).map Ykf
theorem Ykg{l:List D}{i:Nat}{d:D}(h:(Ykf l)[i]?=some d):∃e,l[i]?=some e∧d=.tup [.int i,e]:=by
 unfold Ykf at h
 rw[Qg]at h
 obtain⟨j,h1,rfl⟩:=qb h
 have hj:i < l.length:=by
  have:=(qm h1).1
  simpa using this
 rw[List.getElem?_range hj]at h1
 cases h1
 exact⟨l[i],qp hj,by simp[hj]⟩
theorem Ycd(l:List D):(Ykf l).length=l.length:=by simp[Ykf]
theorem Gr.newTup{H G:Hp}{d:D}{x:V}(s:Same G H){p:Addr}(hp:H p=none)(i:Nat)(r:Rp K G d x):∃G3,Gr H G (upd H p (.tup [.int i,x])) G3∧Rp K G3 (.tup [.int i,d]) (.ref p):=by
 refine⟨_,Gr.new s hp (.tup [.int i,x]),?_⟩
 rw[Rp]
 exact⟨p,_,rfl,y0,.cons (by rw[Rp]) (.one (r.mono (Gr.new s hp _).g))⟩
theorem Ypa{l:Expr}{f:Ro→Option D}{p:Pos}(hg:Gl X "enumerate")(hm:X.mg "enumerate"=none)(hl:ME X l f)(hs:starEach [l] X.env=[(false,eval l X.env)]:=by rfl) :
 MI X (.Tuple elts x1 pt) (.Call (.Name "enumerate" p) [l] [] pos) (b1 f Ylq):=
 PI.imp (y08 hg hm (Yqx hl Yvf hs) hs) fun σ H R hx_=>by
  obtain⟨ρ,ds,H0,G0,G,e,s,h⟩:=hx_
  obtain⟨c,h1,h2⟩:=Yer e
  obtain⟨l,h3,rfl⟩:=qb h2
  refine tAof.at (show Yh f aNil ρ=some [c] by simp[Yh,aNil,h1]) s fun vs H1 G1 g1 r1 s1=>?_
  obtain⟨v,rfl,rv⟩:=Yhb r1
  rcases Yax h3 with rfl | rfl | ⟨ns,rfl,rfl⟩
  ·rw[Rp]at rv
   obtain⟨p,xs,rfl,g,rl⟩:=rv
   refine⟨p,xs,rfl,.inr ⟨.inl (.inl (s1.seen _ _ g)),fun hz=>h _ H1 G1 g1 ⟨by rw[Ycd,←rl.length];exact hz,fun i H2 G2 e1 e2=>⟨fun d hd=>?_,fun hi=>⟨xs,.inl (.inl (e2 _ _ (e1 _ _ g))),by rw[rl.length,←Ycd l];exact hi⟩⟩⟩⟩⟩
   obtain⟨d',hd',rfl⟩:=Ykg hd
   obtain⟨x,hx,rx⟩:=rl.get hd'
   refine⟨⟨xs,x,.inl (.inl (e2 _ _ (e1 _ _ g))),hx⟩,fun y H3 q=>?_⟩
   obtain⟨y',q',a1,a2,rfl,rfl⟩:=q
   have:=a1 xs (.inl (.inl (e2 _ _ (e1 _ _ g))))
   rw[hx]at this
   cases this
   exact Gr.newTup e2 a2 i (rx.mono e1)
  ·rw[Rp]at rv
   obtain⟨p,xs,rfl,g,rl⟩:=rv
   refine⟨p,xs,rfl,.inl ⟨.inl (Ybr s1.seen g),fun hz=>h _ H1 G1 g1 ⟨by rw[Ycd,←rl.length];exact hz,fun i H2 G2 e1 e2=>⟨fun d hd=>?_,fun hi=>⟨xs,.inl (Ybr e2 (Ybr e1 g)),by rw[rl.length,←Ycd l];exact hi⟩⟩⟩⟩⟩
   obtain⟨d',hd',rfl⟩:=Ykg hd
   obtain⟨x,hx,rx⟩:=rl.get hd'
   refine⟨⟨xs,x,.inl (Ybr e2 (Ybr e1 g)),hx⟩,fun y H3 q=>?_⟩
   obtain⟨y',q',a1,a2,rfl,rfl⟩:=q
   have:=a1 xs (.inl (Ybr e2 (Ybr e1 g)))
   rw[hx]at this
   cases this
   exact Gr.newTup e2 a2 i (rx.mono e1)
  ·rw[Rp]at rv
   obtain⟨p,rfl,g⟩:=rv
   have rl:RpL X.K G1 (ns.map D.int) (ns.map V.int):=.ints ns
   refine⟨p,_,rfl,.inl ⟨s1.seen.seq g,fun hz=>h _ H1 G1 g1 ⟨by rw[Ycd,←rl.length];exact hz,fun i H2 G2 e1 e2=>⟨fun d hd=>?_,fun hi=>⟨_,e2.seq (e1.seq g),by rw[rl.length,←Ycd];exact hi⟩⟩⟩⟩⟩
   obtain⟨d',hd',rfl⟩:=Ykg hd
   obtain⟨x,hx,rx⟩:=rl.get hd'
   refine⟨⟨_,x,e2.seq (e1.seq g),hx⟩,fun y H3 q=>?_⟩
   obtain⟨y',q',a1,a2,rfl,rfl⟩:=q
   have:=a1 _ (e2.seq (e1.seq g))
   rw[hx]at this
   cases this
   exact Gr.newTup e2 a2 i (rx.mono e1)
end
end
section
variable {K:W.Frag}
noncomputable def Yjg{α β:Type} [DecidableEq α]:List α→List β→α→Option β
 | k::ks,v::vs,x=>if k=x then some v else Yjg ks vs x
 | _,_,_=>none
noncomputable def setK{α β:Type} [DecidableEq α]:List α→List β→α→β→List β
 | k::ks,v::vs,x,y=>if k=x then y::vs else v::setK ks vs x y
 | _,vs,_,_=>vs
theorem Yhd{α β:Type} [DecidableEq α] (x:α) (y:β):∀(ks:List α) (vs:List β),(setK ks vs x y).length=vs.length
 | [],vs=>by cases vs<;>simp[setK]
 | k::ks,[]=>by simp[setK]
 | k::ks,v::vs=>by
   simp only[setK]
   split
   ·simp
   ·simp[Yhd x y ks vs]
theorem Yq0{α:Type} [DecidableEq α] {G:Hp} (x:α) {d:D} {y:V} (ry:Rp K G d y):∀{ks:List α} {vs:List D} {vxs:List V},RpL K G vs vxs→RpL K G (setK ks vs x d) (setK ks vxs x y)
 | [],[],_,r=>by simpa [setK]using r
 | [],_::_,_,r=>by
   rw[RpL]at r
   obtain⟨z,r',rfl,r1,r2⟩:=r
   simp only[setK]
   exact .cons r1 r2
 | k::ks,[],_,r=>by
   rw[RpL]at r;subst r
   simp[setK];exact .nil
 | k::ks,e::vs,_,r=>by
   rw[RpL]at r
   obtain⟨z,r',rfl,r1,r2⟩:=r
   simp only[setK]
   split
   ·exact .cons ry r2
   ·exact .cons r1 (Yq0 x ry r2)
theorem Yiv{α β:Type} [DecidableEq α] {x:α}:∀{ks:List α} {vs:List β},vs.length=ks.length→(Yjg ks vs x=none↔x∉ks)
 | [],_,_=>by simp[Yjg]
 | k::ks,[],h=>by simp at h
 | k::ks,v::vs,h=>by
   by_cases e:k=x
   ·simp[Yjg,e]
   ·have e':¬x=k:=fun z=>e z.symm
    simp only[Yjg,e,if_false,List.mem_cons,e',false_or]
    exact Yiv (by simpa using h)
end
section
open Sem (wp)
variable {K:W.Frag}
end
section
variable {K:W.Frag}
end
section
variable {K:W.Frag}
noncomputable def tK(x:Str):TE:=fun _ H Q=>Q (.str x) H
structure MP(X:Cx)(pos:Pos)(keys:List (Option Expr))(values:List Expr)(ks:List Str)(fs:List (Ro→Option D)):Prop where
 len:ks.length=fs.length
 pps:PPs X pos keys values ((ks.zip fs).map fun p=>(tK p.1,tOf X.K p.2))
 all:keys.all (·.isSome)=true
 kv:keys.length=values.length
 kk:keys.length=ks.length
end
section
variable {K:W.Frag}
structure DtH(H:Hp)(a:Addr)(nks:List (List Int × Addr))(vxs:List V):Prop where
 at':H a=some (dTo a nks vxs)
 len:nks.length=vxs.length
 nd:(nks.map (·.1)).Nodup
 keys:∀p∈nks,∃ys,H p.2=some (.tup ys)∧y0n ys=some p.1
section
variable {X:Cx} {a b e:Expr} {fa fb f:Ro→Option D} {pos:Pos}
theorem RpL.snoc{G:Hp}{d:D}{y:V}(r:Rp K G d y):∀{l:List D} {xs:List V},RpL K G l xs→RpL K G (l++[d]) (xs++[y])
 | [],_,h=>by
   rw[RpL]at h
   subst h
   exact .cons r .nil
 | e::l,_,h=>by
   rw[RpL]at h
   obtain⟨x,q,rfl,r1,r2⟩:=h
   exact .cons r1 (RpL.snoc r r2)
end
end
section
noncomputable def Yq1:List Expr→Option (List Int)
 | []=>some []
 | .Constant (.int i) _ _::es=>(Yq1 es).map (i::·)
 | _=>none
noncomputable def Ykh(ns:List Int):Ro→Option (List D):=fun _=>if ns.length≤cap6 then some (ns.map D.int)else none
noncomputable def Yvx:List Int→Ro→Option (List D)
 | []=>aNil
 | n::ns=>Yh (kD (.int n)) (Yvx ns)
theorem Ysn(ρ:Ro):∀ns:List Int,Yvx ns ρ=some (ns.map D.int)
 | []=>rfl
 | n::ns=>by rw[Yvx,Yh,Ysn ρ ns];rfl
theorem Yvy{X:Cx}:∀{es:List Expr} {ns:List Int},Yq1 es=some ns→MA X es (Yvx ns)
 | [],ns,h=>by
   cases h
   exact Yvf
 | e::es,ns,h=>by
   unfold Yq1 at h
   split at h
   ·rename_i e2;cases e2
   ·rename_i i j p es' e1
    cases e1
    obtain⟨m,h1,rfl⟩:=qb h
    exact Yqx Yzb (Yvy h1)
   ·cases h
theorem Yvz{X:Cx}{es:List Expr}{pos:Pos}(ns:List Int)(h:Yq1 es=some ns:=by decide +kernel):MF X (.List es pos) (Ykh ns):=by
 have:=Yzg (pos:=pos) (Yvy (X:=X) h)
 have e:dLst (Yvx ns)=Ykh ns:=by
  funext ρ
  unfold dLst Ykh
  rw[Ysn]
  simp
 rw[e]at this
 exact this
theorem y09(X:Cx)(pos' pos p1 p2:Pos)(x:Str)(i:Nat)(es:List Expr)(b:Expr)(fb:Ro→Option D)(ns:List Int)(hN:X.N.Nodup)(h:Yq1 es=some ns)(hi:X.N[i]?=some x)
 (hx:Loc X.env.scope x) (hf:X.fn x=true∨X.env.scope.names.lookup x=some .local) (hs:Yin b) (hb:MC X b fb) :
 MS X (.Assign [.Name x pos'] (.Subscript (.List es p1) b p2) pos) (sSet i (b2 (lF (Ykh ns)) fb ixD)):=
 Yzi i hN (Yvd (ME.mc (MF.me (Yvz ns h))) hb hs) hi hx rfl hf
end
section
section
variable {X:Cx} {a b c e:Expr} {fa fb fc:Ro→Option D} {pos:Pos} {st:Stmt}
noncomputable def ch3(fa fb fc:Ro→Option D)(g g':D→D→Option Bool):Ro→Option Bool:=fun ρ=>
 (fa ρ).bind fun x=>(fb ρ).bind fun y=>(g x y).bind fun k=>if k=true then (fc ρ).bind fun z=>g' y z else some false
theorem Yx2{g g':D→D→Option Bool}{ρ:Ro}{k:Bool}(h:ch3 fa fb fc g g' ρ=some k) :
 ∃x y,fa ρ=some x∧fb ρ=some y∧((g x y=some false∧k=false)∨(g x y=some true∧∃z,fc ρ=some z∧g' y z=some k)):=by
 unfold ch3 at h
 obtain⟨x,h1,h⟩:=qa h
 obtain⟨y,h2,h⟩:=qa h
 obtain⟨q,h3,h⟩:=qa h
 refine⟨x,y,h1,h2,?_⟩
 cases q with
 | false=>
   rw[if_neg (by simp)]at h
   cases h
   exact .inl ⟨h3,rfl⟩
 | true=>
   rw[if_pos rfl]at h
   obtain⟨z,h4,h⟩:=qa h
   exact .inr ⟨h3,z,h4,h⟩
theorem Yx3{op op':CmpOp}{r r':R2}{g g':D→D→Option Bool}(ho:OpR X (compareOp op) r)(hr:Ygt X.K r g)(ho':OpR X (compareOp op') r')(hr':Ygt X.K r' g')(ha:MC X a fa)(hb:MC X b fb)(hc:MC X c fc)
 (hm:lastMarks [op,op'] [b,c]=false:=by with_unfolding_all rfl):ME X (.Compare a [op,op'] [b,c] pos) (mB (ch3 fa fb fc g g')):=
 PE.imp (Yxj ho ho' ha hb hc hm) fun σ H Q h=>by
  obtain⟨ρ,d,H0,G0,G,e,s,h⟩:=h
  obtain⟨k,ek,rfl⟩:=Yqv e
  obtain⟨x,y,h1,h2,h3⟩:=Yx2 ek
  refine tCof.at h1 s fun v H1 G1 g1 r1 s1=>tCof.at h2 s1 fun u H2 G2 g2 r2 s2=>?_
  rcases h3 with⟨h3,rfl⟩ | ⟨h3,z,h4,h5⟩
  ·exact hr v u x y false H2 G2 _ h3 s2.seen (r1.grow g2) r2 ⟨false,rfl,by rw[if_neg (by simp)];exact h _ H2 G2 (g1.trans g2) (by rw[Rp])⟩
  ·refine hr v u x y true H2 G2 _ h3 s2.seen (r1.grow g2) r2 ⟨true,rfl,?_⟩
   rw[if_pos rfl]
   exact tCof.at h4 s2 fun w H3 G3 g3 r3 s3=>hr' u w y z k H3 G3 _ h5 s3.seen (r2.grow g3) r3 (h _ H3 G3 ((g1.trans g2).trans g3) (by rw[Rp]))
noncomputable def nS:Ro→Option Out:=fun _=>none
theorem Yx4:MS X st nS:=fun _ _ _ _ _ _ ⟨_,_,_,_,_,h,_⟩=>nomatch h
end
end
section
section
variable {X:Cx} {e:Expr} {f:Ro→Option D} {fc:Ro→Option Bool} {gl:Ro→Option (List D)} {K:W.Frag}
noncomputable def y4n:D→Bool
 | .non | .bl _ | .int _ | .str _=>true
 | _=>false
noncomputable def scal(d:D):Option D:=if y4n d=true then some d else none
theorem Rp.scal{G G':Hp}{d:D}{v:V}(h:y4n d=true)(r:Rp K G d v):Rp K G' d v:=by
 cases d<;>first | (rw[Rp]at r ⊢;exact r) | cases h
theorem Gr.back{H G H' G' G1:Hp}(s:Same G H)(g:Gr H G1 H' G'):Gr H G H' G:=⟨g.h,Same.refl _,s.trans g.h,fun _ h h'=>absurd h h'⟩
noncomputable def Ytn(is:List Nat)(f:Ro→Option D):Ro→Option D:=fun ρ=>(f (frz is ρ)).bind scal
noncomputable def Yx5(is:List Nat)(f:Ro→Option Bool):Ro→Option Bool:=fun ρ=>f (frz is ρ)
theorem y1a(is:List Nat)(h:ME X e f):ME X e (Ytn is f):=PE.imp h fun σ H Q hx_=>by
 obtain⟨ρ,d,H0,G0,G,e,s,h⟩:=hx_
 unfold Ytn at e
 obtain⟨d',h1,e⟩:=qa e
 unfold M.scal at e
 split at e
 ·rename_i hs
  cases e
  obtain⟨G',s'⟩:=SR.frz is s
  exact⟨frz is ρ,_,H0,G0,G',h1,s',fun v H1 G1 g r=>h v H1 G (.back s.seen g) (r.scal hs)⟩
 ·cases e
theorem y1b(is:List Nat)(h:MT X e fc):MT X e (Yx5 is fc):=PT.imp h fun σ H Q hx_=>by
 obtain⟨ρ,d,H0,G0,G,e,s,h⟩:=hx_
 obtain⟨G',s'⟩:=SR.frz is s
 exact⟨frz is ρ,d,H0,G0,G',e,s',fun H1 G1 g=>h H1 G (.back s.seen g)⟩
end
end
section
noncomputable def zK(ns:List Int)(vxs:List V):List (Key × V):=(ns.zip vxs).map fun p=>(Sum.inl p.1,p.2)
theorem Yhe(n:Int)(v:V)(ns:List Int)(vxs:List V):zK (n::ns) (v::vxs)=(Sum.inl n,v)::zK ns vxs:=rfl
theorem y4o:∀{kvs:List (Key × V)} {ns:List Int},kvs.map (fun p=>kV p.1)=ns.map V.int→kvs=zK ns (kvs.map (·.2))
 | [],ns,h=>by
   cases ns with
   | nil=>rfl
   | cons n ns=>cases h
 | (k,v)::kvs,[],h=>by cases h
 | (k,v)::kvs,n::ns,h=>by
   rw[Qc,Qc]at h
   injection h with h1 h2
   cases k with
   | inl i=>
     have:i=n:=by simp[kV]at h1;exact h1
     subst this
     rw[Qc,Yhe,←y4o h2]
   | inr x=>cases h1
theorem Yzl(i:Int):∀(ns:List Int) (vxs:List V),valV (zK ns vxs) (Sum.inl i)=Yjg ns vxs i
 | [],vxs=>by simp[zK,Yjg,valV]
 | n::ns,[]=>by simp[zK,Yjg,valV]
 | n::ns,v::vxs=>by
   rw[Yhe,Yjg]
   by_cases h:n=i
   ·rw[if_pos h,Yju (by simp[h])]
   ·rw[if_neg h,Yjv (by simpa using h)]
    exact Yzl i ns vxs
theorem Yf3:∀(ns:List Int) (vxs:List V),ns.length=vxs.length→(zK ns vxs).map (·.1)=ns.map Sum.inl
 | [],vxs,_=>rfl
 | n::ns,[],h=>by simp at h
 | n::ns,v::vxs,h=>by
   rw[Yhe,Qc,Qc,Yf3 ns vxs (by simpa using h)]
theorem y4p(ns:List Int)(vxs:List V)(h:ns.length=vxs.length):(zK ns vxs).length=ns.length:=by
 have:=congrArg List.length (Yf3 ns vxs h)
 simpa using this
theorem Yzm(i:Int):∀(ns:List Int) (vxs:List V),ns.length=vxs.length→((zK ns vxs).any fun kv=>decide (kv.1=Sum.inl i))=decide (i∈ns)
 | [],vxs,_=>by simp[zK]
 | n::ns,[],h=>by simp at h
 | n::ns,v::vxs,h=>by
   rw[Yhe,List.any_cons,Yzm i ns vxs (by simpa using h)]
   by_cases e:n=i
   ·subst e;simp
   ·have e':¬i=n:=fun z=>e z.symm
    simp[e,e']
theorem Yzn(i:Int)(y:V):∀(ns:List Int) (vxs:List V),ns.length=vxs.length→ns.Nodup→(zK ns vxs).map (fun kv=>if kv.1=Sum.inl i then (kv.1,y)else kv)=zK ns (setK ns vxs i y)
 | [],vxs,_,_=>by simp[zK]
 | n::ns,[],h,_=>by simp at h
 | n::ns,v::vxs,h,hn=>by
   obtain⟨h1,h2⟩:=List.nodup_cons.mp hn
   have hl:ns.length=vxs.length:=by simpa using h
   rw[Yhe,Qc,setK]
   by_cases e:n=i
   ·subst e
    rw[if_pos rfl,if_pos rfl,Yhe]
    have:(zK ns vxs).map (fun kv=>if kv.1=Sum.inl n then (kv.1,y)else kv)=zK ns vxs:=by
     refine(List.map_congr_left fun kv hkv=>?_).trans (List.map_id _)
     rw[if_neg]
     ·rfl
     ·intro z
      have:kv.1∈(zK ns vxs).map (·.1):=List.mem_map_of_mem hkv
      rw[Yf3 ns vxs hl,z]at this
      obtain⟨m,hm,e⟩:=qw this
      injection e with e
      exact h1 (e ▸ hm)
    rw[this]
   ·rw[if_neg (by simpa using e),if_neg e,Yhe,Yzn i y ns vxs hl h2]
theorem y1c(i:Int)(y:V):∀(ns:List Int) (vxs:List V),ns.length=vxs.length→zK (ns++[i]) (vxs++[y])=zK ns vxs++[(Sum.inl i,y)]:=fun ns vxs h=>by
 unfold zK
 rw[List.zip_append h,List.map_append]
 rfl
noncomputable def putI(ns:List Int)(vxs:List V)(i:Int)(y:V):List Int × List V:=if i∈ns then (ns,setK ns vxs i y)else (ns++[i],vxs++[y])
theorem Yzo{ns:List Int}{vxs:List V}(h:ns.length=vxs.length)(hn:ns.Nodup)(i:Int)(y:V):putK (zK ns vxs) (Sum.inl i) y=zK (putI ns vxs i y).1 (putI ns vxs i y).2:=by
 unfold putK putI
 rw[Yzm i ns vxs h]
 by_cases e:i∈ns
 ·rw[if_pos (decide_eq_true e),if_pos e]
  exact Yzn i y ns vxs h hn
 ·rw[if_neg (by simpa using e),if_neg e,y1c i y ns vxs h]
theorem Yv0{ns:List Int}(h:(ns.map (Sum.inl:Int→Key)).Nodup):ns.Nodup:=by
 rw[List.nodup_iff_pairwise_ne,List.pairwise_map]at h
 rw[List.nodup_iff_pairwise_ne]
 exact h.imp fun h z=>h (by rw[z])
theorem Yto{ns:List Int}(h:ns.Nodup):(ns.map (Sum.inl:Int→Key)).Nodup:=by
 rw[List.nodup_iff_pairwise_ne,List.pairwise_map]
 rw[List.nodup_iff_pairwise_ne]at h
 exact h.imp fun h z=>h (by injection z)
variable {K:W.Frag}
theorem Yx6{G H:Hp}{a:Addr}{ks:List D}{kxs vxs:List V}{ns:List Int}(hn:Ycu ks=some ns)(d:Dc false G H a kxs vxs)(r:RpL K G ks kxs):H a=some (.dK (zK ns vxs))∧ns.Nodup∧ns.length=vxs.length∧kxs=ns.map V.int:=by
 cases Ye4 hn
 have e:=Yh0 r
 rcases d with⟨_,kvs,h1,h2,h3,h4⟩ | ⟨h,_⟩
 ·rw[e]at h3
  have hz:=y4o h3.symm
  rw[←h4]at hz
  have hl:ns.length=vxs.length:=by
   have:=congrArg List.length h3
   rw[h4]
   simpa using this
  refine⟨by rw[h1,←hz],?_,hl,e⟩
  rw[hz,Yf3 ns vxs hl]at h2
  exact Yv0 h2
 ·cases h
theorem y4q{G H:Hp}{a:Addr}{vxs:List V}{ns:List Int}(h:H a=some (.dK (zK ns vxs)))(hn:ns.Nodup)(hl:ns.length=vxs.length):Dc false G H a (ns.map V.int) vxs:=by
 refine .inl ⟨rfl,zK ns vxs,h,by rw[Yf3 ns vxs hl];exact Yto hn,?_,?_⟩
 ·have:=congrArg (List.map kV) (Yf3 ns vxs hl)
  rw[Qj,Qj]at this
  exact(this.trans (List.map_congr_left fun _ _=>rfl)).symm
 ·unfold zK
  rw[Qj]
  have:(fun p:Int × V=>((Sum.inl p.1,p.2):Key × V).2)=fun p=>p.2:=rfl
  show vxs=(ns.zip vxs).map fun p:Int × V=>p.2
  clear h hn this
  induction ns generalizing vxs with
  | nil=>cases vxs with
    | nil=>rfl
    | cons=>simp at hl
  | cons n ns ih=>cases vxs with
    | nil=>simp at hl
    | cons v vxs=>simp;exact ih (by simpa using hl)
noncomputable def hasI(neg:Bool):D→D→Option Bool
 | .int i,.dct false ks _=>(Ycu ks).map fun ns=>decide (i∈ns) != neg
 | _,_=>none
noncomputable def rInI(neg:Bool):R2:=fun x y H Q=>∃a o,y=.ref a∧DGet H a x o∧Q (.bl (o.isSome != neg)) H
theorem Ytp{ns:List Int}{vxs:List V}{i:Int}(hl:ns.length=vxs.length):(Yjg ns vxs i).isSome=decide (i∈ns):=by
 cases h:Yjg ns vxs i with
 | none=>
   have:=(Yiv (x:=i) (ks:=ns) (vs:=vxs) hl.symm).mp h
   simp[this]
 | some v=>
   have:i∈ns:=Classical.byContradiction fun z=>by
    rw[(Yiv (x:=i) (ks:=ns) (vs:=vxs) hl.symm).mpr z]at h
    cases h
   simp[this]
theorem Yso{neg:Bool}:Ygt K (rInI neg) (hasI neg):=by
 intro x y dx dy b H G Q h s rx ry q
 unfold hasI at h
 split at h
 ·rename_i i ks vs
  obtain⟨ns,h1,rfl⟩:=qb h
  rw[Ct]at rx
  rw[Ct]at ry
  subst rx
  obtain⟨a,kxs,vxs,rfl,dc,r1,r2⟩:=ry
  obtain⟨e1,e2,e3,e4⟩:=Yx6 h1 dc r1
  refine⟨a,Yjg ns vxs i,rfl,?_,?_⟩
  ·have:=DGet.k (k:=Sum.inl i) e1
   rw[Yzl]at this
   exact this
  ·rw[Ytp e3]
   exact q
 ·cases h
section
variable {X:Cx}
theorem y4r(hu:X.A.units+64 < cLine):OpR X (compareOp .In) (rInI false):=by
 intro pins s σ H x y v u Q I rx ry h
 obtain⟨a,o,rfl,g,q⟩:=h
 cases ry
 exact d_in (by lia) I g rx fun s3 I3=>⟨.bl (o.isSome != false),H,I3,by simp;rfl,q⟩
theorem Yv1(hu:X.A.units+64 < cLine):OpR X (compareOp .NotIn) (rInI true):=by
 intro pins s σ H x y v u Q I rx ry h
 obtain⟨a,o,rfl,g,q⟩:=h
 cases ry
 exact y0a (by lia) I g rx fun s3 I3=>⟨.bl (o.isSome != true),H,I3,by simp;rfl,q⟩
noncomputable def y4s:V→V→V→Hp→(Hp→Prop)→Prop:=fun o i v H Q=>∃a H',o=.ref a∧DPut H a i v H'∧Q H'
theorem y4t(hu:X.A.units+64 < cLine):PSet X y4s:=by
 intro pins s σ H o i v ov iv u Q I ro ri rv h
 obtain⟨a,H',rfl,g,q⟩:=h
 cases ro
 exact Yuw (by lia) I g ri rv fun s4 I4=>⟨_,I4,q⟩
variable {a b e f':Expr} {fa fb f fz:Ro→Option D} {pos:Pos}
theorem y4u(hu:X.A.units+64 < cLine)(ha:MC X a fa)(hb:MC X b fb)(hm:behindInMarks .In b=false:=by with_unfolding_all rfl):ME X (.Compare a [.In] [b] pos) (mB (b2 fa fb (hasI false))):=Yj6 (y4r hu) Yso ha hb hm
noncomputable def Ypb(i:Nat):Ro→Option (List D × List D):=fun ρ=>match ρ[i]? with
 | some (some (B.od false ks vs))=>some (ks,vs)
 | _=>none
theorem Ytq{i:Nat}{ρ:Ro}{l:List D × List D}(h:Ypb i ρ=some l):ρ[i]?=some (some (B.od false l.1 l.2)):=by
 unfold Ypb at h
 split at h
 ·cases h;assumption
 ·cases h
noncomputable def Yv2(ks vs:List D)(k d:D):Option (List D × List D):=(Ycu ks).bind fun ns=>match k with
 | .int i=>if vs.length < cap6 then some (if i∈ns then (ks,setK ns vs i d)else (ks++[k],vs++[d]))else none
 | _=>none
noncomputable def Yv3(i:Nat)(fi f:Ro→Option D):Ro→Option Out:=fun ρ=>(f ρ).bind fun d=>(Ypb i ρ).bind fun l=>(fi ρ).bind fun k=>(Yv2 l.1 l.2 k d).map fun l'=>.nx (ρ.set i (some (.od false l'.1 l'.2)))
theorem y1d(hu:X.A.units+64 < cLine)(i:Nat){x:Str}{ie:Expr}{p2 p3:Pos}(hb:MC X ie fb)(he:ME X e f)(hN:X.N[i]?=some x:=by rfl)(hv:Vis X.env.scope x:=by first | exact Or.inl rfl | exact Or.inr (Or.inl rfl) | exact Or.inr (Or.inr rfl))
 (hd:(x==("__debug__":Str))=false:=by decide) (hcd:(x==("__classdict__":Str))=false:=by decide)
 (ha:∀v,assign (.Subscript (.Name x p2) ie p3) X.env v=(do
  let ov ←holding [v] (eval (.Name x p2) X.env)
  let iv ←holding [v,ov] (eval ie X.env)
  standAt p3
  holding [v,ov,iv] (setItem ov iv v)
  release [v,ov,iv] []):=by intro _;rfl)
 (hs:swapsWithSole [.Subscript (.Name x p2) ie p3] e pos.line X.env=pure false:=by rfl) (hw:swappedStores [.Subscript (.Name x p2) ie p3] e X.env=pure none:=by rfl)
 (h1:(assignEach [.Subscript (.Name x p2) ie p3] X.env).map (·.2)=[assign (.Subscript (.Name x p2) ie p3) X.env]:=by rfl):MS X (.Assign [.Subscript (.Name x p2) ie p3] e pos) (Yv3 i fb f):=
 PS.imp (Yy5 he (y2v (Yr6 hN hv hd hcd) hb (y4t hu) ha) hs hw h1) fun F σ H hx_=>by
  obtain⟨ρ,out,H0,G0,G,e,s,h⟩:=hx_
  unfold Yv3 at e
  obtain⟨d,h1,e⟩:=qa e
  obtain⟨l,h2,e⟩:=qa e
  obtain⟨k,h3,e⟩:=qa e
  obtain⟨l',h4,rfl⟩:=qb e
  obtain⟨ks,vs⟩:=l
  unfold Yv2 at h4
  obtain⟨ns,h5,h4⟩:=qa h4
  obtain⟨j,rfl⟩:∃j,k=.int j:=by
   cases k with
   | int j=>exact⟨j,rfl⟩
   | _=>cases h4
  dsimp only at h4
  split at h4
  case isFalse=>cases h4
  rename_i hcap
  have hod:=Ytq h2
  refine tOf.at h1 s fun v H1 G1 g1 r1 s1=>?_
  obtain⟨a0,_,_,ha0,_⟩:=s1.od i _ _ _ hod
  refine⟨_,ha0,tCof.at h3 s1 fun u H2 G2 g2 r2 s2=>?_⟩
  obtain⟨a,kxs,vxs,ha,hG,hH0,dc,rk,rv⟩:=s2.od i _ _ _ hod
  rw[ha0]at ha
  cases ha
  obtain⟨e1,e2,e3,e4⟩:=Yx6 h5 dc rk
  rw[Ct]at r2
  subst r2
  have hvl:vxs.length < cap6:=by rw[rv.length];exact hcap
  have hsl:(zK ns vxs).length < sizeLine:=by
   rw[y4p _ _ e3,e3,sizeLine_eq]
   have:cap6=1000000:=rfl
   lia
  refine⟨a0,_,rfl,DPut.k (k:=Sum.inl j) (v:=v) e1 hsl,?_⟩
  have r1':=r1.mono g2.g
  injection h4 with h4
  rw[Yzo e3 e2]
  refine h _ _ G2 (s2.mutd hod ha0 (kxs:=(putI ns vxs j v).1.map V.int) (vxs:=(putI ns vxs j v).2) (y4q y0 ?_ ?_) ?_ ?_)
  ·unfold putI
   split
   ·exact e2
   ·rename_i hm
    rw[List.nodup_append]
    refine⟨e2,by simp,fun x hx y hy z'=>?_⟩
    simp at hy
    subst z' hy
    exact hm hx
  ·unfold putI
   split
   ·rw[Yhd];exact e3
   ·simp[e3]
  ·rw[←h4]
   unfold putI
   rw[e4]at rk
   split
   ·exact rk
   ·rw[List.map_append]
    exact RpL.snoc (by rw[Rp]) rk
  ·rw[←h4]
   unfold putI
   split
   ·exact Yq0 j r1' rv
   ·exact RpL.snoc r1' rv
end
set_option maxRecDepth 100000
section
variable {prog:Program} {w:World} {A:Around} {E:Value→Shared→Prop} {s:Shared}
theorem Yng:isSubtype (.type "dict") (.type "dict")=pure true:=by rw[isSubtype_type];kernel_rfl
def PIn(vals:List Int)(i:Nat)(v:Value):Prop:=∃k t,vals[i]?=some k∧v=.int k t
theorem y1e{vals:List Int}:∀{acc:List Value},acc.length=vals.length→(∀(j:Nat) v,acc[j]?=some v→PIn vals j v)→IntsAre acc vals:=by
 induction vals with
 | nil=>
   intro acc h _
   rw[List.length_eq_zero_iff.mp h]
   exact .nil
 | cons k r ih=>
   intro acc h hp
   match acc,h with
   | v::acc,h=>
     obtain⟨k',t,e1,e2⟩:=hp 0 v rfl
     simp at e1
     subst e1
     subst e2
     refine .cons _ t (ih (by simpa using h) fun j v hj=>?_)
     obtain⟨k',t,e1,e2⟩:=hp (j+1) v (by simpa using hj)
     exact⟨k',t,by simpa using e1,e2⟩
theorem Ypc{a:Addr}{kvs:List (Key × Value)}{ns:List Int}(hh:A.handled=none)(hd:(a==sysModules)=false)(hS:s.heap.DictOf (Yao prog w) a kvs)(hk:kvs.map (·.1)=ns.map Sum.inl)(hl:ns.length≤1000){Q:List Value→Shared→Prop}
 (hQ:∀(h':Heap) (tk:Nat) (acc:List Value),s.heap.objs.size≤h'.objs.size→(∀b o,s.heap.get? b=some o→h'.get? b=some o)→IntsAre acc ns→Q acc { s with heap:=h',toks:=tk }) :
 wpAny (model prog w) A (collect (.ref a)) Q E s:=by
 obtain⟨o,es,ep,ho,hex,hdat,hrest⟩:=id hS
 have hlt:a < s.heap.objs.size:=qk ho
 have hlen:kvs.length=ns.length:=by have:=congrArg List.length hk;simpa using this
 unfold collect
 refine wpAny_bind (wpAny_runValue (codeAny_builtin F.entry_proto_collect ?_))
 rw[Around.under_plainId F.plain_proto_collect _]
 show wpAny _ A.in1 (newList [] >>= fun l=>again (.builtin "list.__iadd__" ⟨[l,.ref a],[]⟩)) _ _ s
 refine wpAny_bind (wpAny_newObj_type ?_)
 refine wpAny_pure ⟨plainId_quiet F.plain_list_iadd _,codeAny_builtin F.entry_list_iadd ?_⟩
 rw[Around.under_plainId F.plain_list_iadd _]
 generalize hH:s.heap.push { cls:=.type "list",data:=.seq ([]:List Value).toArray }=H
 have hHs:H.objs.size=s.heap.objs.size+1:=by rw[←hH,Heap.size_push]
 have keepH:∀b o,s.heap.get? b=some o→H.get? b=some o:=fun b o e=>by rw[←hH];exact qd _ e
 have hL:H.get? s.heap.objs.size=some { cls:=.type "list",data:=.seq ([]:List Value).toArray }:=by rw[←hH];exact qo _ rfl
 have hoH:=keepH a o ho
 have hT:Shared.TypeIs { s with heap:=H } (.ref a) "dict":=⟨o,hoH,hex.1⟩
 have hSI:s.heap.objs.size≠a:=fun z=>by rw[←z]at hlt;exact absurd hlt (Qi _)
 have h1:Builtin.List.listSameRef (.ref s.heap.objs.size) (.ref a)=false:=by simp[Builtin.List.listSameRef,hSI]
 show wpAny _ A.in1 (Builtin.List.listExtendWith (.ref s.heap.objs.size) (.ref a) (.ref s.heap.objs.size)) _ _ _
 unfold Builtin.List.listExtendWith
 refine wpAny_bind (wpAny_typeOf hT ?_)
 have h2:(Value.type "dict"==Value.type "list")=false:=by decide
 have h3:(Value.type "dict"==Value.type "tuple")=false:=by decide
 simp only[h1,h2,h3,Bool.or_false,Ql,if_false]
 have hat:H.DictAt (Yao prog w) a kvs ep:=⟨o,es,hoH,hex,hdat,hrest⟩
 refine wpAny_bind (wpAny_pyIter_dict (s:={ s with heap:=H }) hd hat ?_)
 generalize hO:({ cls:=.type "dict_keyiterator",data:=.fields #[.ref a,.int 0 0,.int kvs.length 0,.int ep 0] }:Obj)=itO
 have hoI:(H.push itO).get? a=some o:=qd _ hoH
 have hT':Shared.TypeIs { s with heap:=H.push itO } (.ref a) "dict":=⟨o,hoI,hex.1⟩
 refine wpAny_bind (wpAny_holding ?_)
 unfold Builtin.List.listLengthHint
 refine wpAny_bind (wpAny_specialOf hT' F.slot_dict_len.lookup ?_)
 (generalize hid:("dict.__len__":String)=id0;(fail_if_success (clear hid id0));wp_delta;rw[show splitId id0=some ("dict","__len__") from by subst hid;decide +kernel];subst hid)
 refine wpAny_bind (wpAny_isInstance (b:=true) hT' Yng ?_)
 show wpAny _ A.in1 (typeOf (Value.ref a) >>= _) _ _ _
 refine wpAny_bind (wpAny_typeOf hT' ?_)
 refine wpAny_pure ?_
 rw[if_pos (by decide)]
 refine wpAny_bind (wpAny_rule ?_)
 have haI:a≠H.objs.size:=fun z=>by rw[z,hHs]at hlt;exact absurd hlt (Nat.not_lt.mpr (Nat.le_succ _))
 have hSf:s.heap.objs.size∉[H.objs.size,a]:=fun hm=>by
  simp only[List.mem_cons,List.not_mem_nil,or_false]at hm
  rcases hm with z | z
  ·rw[hHs]at z;exact absurd z (ql (qz _))
  ·exact hSI z
 have hS₁:(H.push itO).get? s.heap.objs.size=some { cls:=.type "list",data:=.seq ([]:List Value).toArray }:=qd _ hL
 refine wpAny_bind ?_
 show wpAny _ A.in1 (updateSeq s.heap.objs.size (·.push .none) >>= fun _=>updateSeq s.heap.objs.size (·.pop)) _ _ _
 refine wpAny_bind (wpAny_updateSeq hS₁ rfl ?_)
 have hS₂:=Heap.get?_update_self (Obj.mapSeq (·.push Value.none)) hS₁ rfl
 refine wpAny_updateSeq hS₂ rfl ?_
 have hS₃:=Heap.get?_update_self (Obj.mapSeq (·.pop)) hS₂ rfl
 have oth:∀b o,b≠s.heap.objs.size→(H.push itO).get? b=some o→
  (((H.push itO).update s.heap.objs.size (Obj.mapSeq (·.push Value.none))).update s.heap.objs.size (Obj.mapSeq (·.pop))).get? b=some o:=
  fun b o hb e=>(Heap.get?_update_other _ _ (Ne.symm hb)).trans ((Heap.get?_update_other _ _ (Ne.symm hb)).trans e)
 have W:=(Walks.dictKeys (prog:=prog) (w:=w) (knd:=Yao prog w) (A:=A.in1) hh H.objs.size a haI kvs ep).toS
 have hst:(H.push itO).IsKeyIter H.objs.size a 0 kvs.length ep∧(H.push itO).DictAt (Yao prog w) a kvs ep:=⟨⟨_,qo _ (by rw[←hO];rfl),by rw[←hO],by rw[←hO];rfl⟩,hat.at' fun o e=>qd _ e⟩
 refine wpAny_pure ⟨plainId_quiet F.plain_extend_loop _,codeAny_extend_loopS W (by rw[sizeLine_eq,hlen];lia) _ hSf _ kvs.length 0 _ _ _ rfl (Nat.zero_le _)
  (W.frame 0 ({ s with heap:=H.push itO }:Shared) _ s.toks hst (qt _) fun b hb o e=>oth b o (fun h=>hSf (h ▸ hb)) e) hS₃ (ItemsOf.nil _) fun s' acc' c' hm hS' hacc=>?_⟩
 show wpAny _ A (load s.heap.objs.size >>= _) _ _ s'
 refine wpAny_bind (wpAny_load hS' ?_)
 have eg:s'.gens=s.gens:=hm.gens
 have ed:s'.drawn=s.drawn:=hm.drawn
 have eo:s'.os=s.os:=hm.os
 have es':s'={ s with heap:=s'.heap,toks:=s'.toks }:=by
  obtain⟨a1,a2,a3,a4,a5⟩:=s'
  simp only at eg ed eo
  subst eg;subst ed;subst eo
  rfl
 rw[es']
 refine wpAny_pure (hQ s'.heap s'.toks acc'.toList (Nat.le_of_lt (qk hS')) (fun b ob e=>?_) (y1e (by rw[qi,hacc.1,hlen]) fun j v hj=>?_))
 ·have hb:b < s.heap.objs.size:=qk e
  refine hm.heap b ob (fun hm'=>?_) (oth b ob (ql hb) (qd _ (keepH b ob e)))
  rcases qr hm' with z | z
  ·rw[z]at hb;exact absurd hb (Qi _)
  ·rw[List.mem_singleton.mp z,hHs]at hb
   exact absurd hb (Nat.not_lt.mpr (Nat.le_succ _))
 ·obtain⟨k,x,e1,e2⟩:=hacc.2 j v (by rw[←Array.getElem?_toList];exact hj)
  have hkj:(kvs.map (·.1))[j]?=some k:=by rw[Qg,e1];rfl
  rw[hk,Qg]at hkj
  obtain⟨n,hn,rfl⟩:=qb hkj
  have e2':Yqp (Sum.inl n) v=true:=e2
  rcases Ya7 e2' with⟨i,t,h1,h2⟩ | ⟨x,t,h1,h2⟩
  ·injection h1 with h1
   exact⟨n,t,hn,by rw[h2,h1]⟩
  ·cases h1
theorem Yq2{a:Addr}{kvs:List (Key × Value)}{ns:List Int}(hh:A.handled=none)(hd:(a==sysModules)=false)(hS:s.heap.DictOf (Yao prog w) a kvs)(hk:kvs.map (·.1)=ns.map Sum.inl)(h64:ns.length < 64){Q:Value→Shared→Prop}
 (hQ:∀(h':Heap) (tk e:Nat) (p:Addr) (out:Array Value) (ns':List Int),(∀b o,s.heap.get? b=some o→h'.get? b=some o)→s.heap.objs.size≤p→h'.get? p=some (seqObj "list" out e)→IntsAre out.toList ns'→ns'.Perm ns→ns'.Pairwise (·≤·)→
  Q (.ref p) { s with heap:=h',toks:=tk }):wpAny (model prog w) A (call (.builtin "sorted") [.ref a]) Q E s:=by
 refine Calls.call_function_entry kind_sorted plain_sorted entry_sorted (args_sorted1 _) ?_
 unfold Builtin.«sorted»
 refine wpAny_bind (m:=checkCount "sorted" 1 1 _) (wpAny_pure ?_)
 refine wpAny_bind (Ypc (A:=A.in1) hh hd hS hk (by lia) fun h' tk acc hle keep hI=>?_)
 have hl:acc.length=ns.length:=IntsAre.length hI
 have h64':acc.length < 64:=by rw[hl];exact h64
 refine wpAny_bind (wpAny_newList ?_ (by rw[sizeLine_eq];lia))
 have hoL:(h'.push (seqObj "list" acc.toArray 0)).get? h'.objs.size=some (seqObj "list" acc.toArray 0):=qo _ rfl
 show wpAny _ _ _ _ _ { s with heap:=h'.push (seqObj "list" acc.toArray 0),toks:=tk }
 refine wpAny_bind (wpAny_holding (wpAny_call_entry slot_list_sort ⟨_,hoL,rfl⟩ entry_list_sort (list_sort_tree (s:={ s with heap:=h'.push (seqObj "list" acc.toArray 0),toks:=tk }) hoL hI h64' fun out ns' a1 a2 a3=>⟨_,rfl,?_⟩) (args_list_sort _)))
 obtain⟨e,he⟩:=sortedHeap_at (n:=0) (out:=out) hoL
 refine wpAny_pure ⟨_,rfl,hQ _ tk e h'.objs.size out ns' (fun b o eb=>?_) hle he a1 a2 a3⟩
 have hb:=qk (keep b o eb)
 rw[sortedHeap_old (ql hb) (by rw[size_push'];exact qv hb)]
 exact qd _ (keep b o eb)
end
section
variable {X:Cx} {e:Expr} {f:Ro→Option D} {p pos:Pos}
noncomputable def Yv4:List V→Hp→VK→Prop:=fun xs H Q=>∃a kvs ns,xs=[.ref a]∧Rd H a (.dK kvs)∧kvs.map (·.1)=ns.map Sum.inl∧ns.length < 64∧∀p,H p=none→Q (.ref p) (upd H p (.lst ((Ydc ns).map V.int)))
theorem Yq3(hc:X.calm=true):Ydx X (.builtin "sorted") Yv4:=by
 intro pins s σ H xs us Q I r h
 obtain⟨a,kvs,ns,rfl,hq,hk,hl,q⟩:=h
 obtain⟨u,rfl,rx⟩:=Yhu r
 cases rx
 have hh:X.A.handled=none:=I.ok.hd hc
 obtain⟨z,hd,vs,rel,dd⟩:=Yxl I.hok hq
 have hkv:vs.map (·.1)=ns.map Sum.inl:=by
  rw[←hk]
  clear hk dd z hq
  induction rel with
  | nil=>rfl
  | cons r _ ih=>rw[Qc,Qc,r.1,ih]
 refine Yq2 hh hd dd hkv hl fun h' tk e p out ns' keep hp he hI hpm hs=>?_
 have en:ns'=Ydc ns:=W.ksm_same (hpm.trans (Ybb ns).symm) hs (Ybg ns)
 subst en
 have hn:(Ydc ns).length=ns.length:=(Ybb ns).length_eq
 exact⟨.ref p,_,Inv.laid (t':=tk) I keep hp (show ObjOk X.prog X.w _ _ _ (.lst ((Ydc ns).map V.int)) from⟨by rw[qe,hn,sizeLine_eq];lia,out.toList,e,Yf0 hI,by rw[Array.toArray_toList];exact he⟩),rfl,q _ (I.hok.fresh hp)⟩
noncomputable def Yki:List D→Option (List D)
 | [.dct false ks _]=>(Ycu ks).bind fun ns=>if ns.length < 64 then some ((Ydc ns).map D.int)else none
 | _=>none
theorem Ytr{K:W.Frag}:SemF K Yv4 Yki:=by
 intro vs ds l H G Q h s r q
 unfold Yki at h
 split at h
 ·rename_i ks ws
  obtain⟨v,rfl,rv⟩:=Yes r
  obtain⟨ns,h1,h⟩:=qa h
  split at h
  ·rename_i h64
   cases h
   rw[Ct]at rv
   obtain⟨a,kxs,vxs,rfl,dc,rk,rv⟩:=rv
   obtain⟨e1,e2,e3,e4⟩:=Yx6 h1 dc rk
   exact⟨a,_,ns,rfl,.inl e1,Yf3 ns vxs e3,h64,fun p hp=>q p _ _ G (.hid s hp _) hp (s.free hp) y0 (.ints _)⟩
  ·cases h
 ·cases h
theorem nr1{α:Sort _}{a b:α}(h:a=b):a=b:=h
@[simp] theorem ap_sPutI{ρ:Ro}(i:Nat)(fi f:Ro→Option D):Yv3 i fi f ρ=(f ρ).bind fun d=>(Ypb i ρ).bind fun l=>(fi ρ).bind fun k=>(Yv2 l.1 l.2 k d).map fun l'=>.nx (ρ.set i (some (.od false l'.1 l'.2))):=nr1 rfl
@[simp] theorem Yx7(neg:Bool)(ks vs:List D)(i:Int):hasI neg (.int i) (.dct false ks vs)=(Ycu ks).map fun ns=>decide (i∈ns) != neg:=nr1 rfl
@[simp] theorem Ypd(ks vs:List D)(i:Int)(d:D):Yv2 ks vs (.int i) d=(Ycu ks).bind fun ns=>if vs.length < cap6 then some (if i∈ns then (ks,setK ns vs i d)else (ks++[.int i],vs++[d]))else none:=nr1 rfl
@[simp] theorem Yq4(ks vs:List D):Yki [.dct false ks vs]=(Ycu ks).bind fun ns=>if ns.length < 64 then some ((Ydc ns).map D.int)else none:=nr1 rfl
@[simp] theorem gOI0(ks vs:List D)(r:Ro):Ypb 0 (some (.od false ks vs)::r)=some (ks,vs):=nr1 rfl
@[simp] theorem gOIs(n:Nat)(b:Option B)(r:Ro):Ypb (n+1) (b::r)=Ypb n r:=by simp[Ypb]
@[simp] theorem gC0d(t:Bool)(ks vs:List D)(r:Ro):getC 0 (some (.od t ks vs)::r)=some (.dct t ks vs):=nr1 rfl
end
end
section
section
variable {X:Cx} {a b e:Expr} {fa fb f:Ro→Option D} {pos:Pos} {K:W.Frag}
noncomputable def shrI:D→D→Option D:=i2 (fun _ j=>decide (0≤j)) fun i j=>i / 2 ^ j.toNat
theorem y4v(ha:MC X a fa)(hb:MC X b fb):ME X (.BinOp a .RShift b pos) (b2 fa fb shrI):=Ymj y22 (Ysh (fun _ _ h=>of_decide_eq_true h)) ha hb
theorem Yq5{M:Model}{A:Around}{E:Value→Shared→Prop}{s:Shared}{Q:Value→Shared→Prop}{v:Value}{k:Bool}(hb:∀id,v≠.builtin id)(h:Q (.bool (v==.bool k)) s):wpAny M A (compareOp .Is v (.bool k)) Q E s:=by
 cases v<;>first | exact wpAny_pure h | exact absurd rfl (hb _)
noncomputable def isBl(k:Bool):D→Bool
 | .bl j=>j==k
 | _=>false
noncomputable def isB(neg:Bool):D→D→Option Bool
 | d,.bl k=>some (isBl k d != neg)
 | _,_=>none
theorem vbl{x:V}{v:Value}(r:RelV x v)(k:Bool):(v==.bool k)=decide (x=.bl k):=by
 cases x with
 | bl j=>
   cases (show v=Value.bool j from r)
   by_cases h:j=k
   ·subst h;simp
   ·simp[h]
 | non=>cases (show v=Value.none from r);rfl
 | int i=>obtain⟨t,rfl⟩:=r;rfl
 | str i=>obtain⟨t,rfl⟩:=r;rfl
 | ref i=>cases (show v=Value.ref i from r);rfl
 | _=>first | (obtain⟨t,rfl⟩:=r;rfl) | (cases r;rfl)
theorem nobl{x:V}{v:Value}(r:RelV x v):∀id,v≠.builtin id:=fun id z=>by
 subst z
 cases x<;>first | (obtain⟨t,h⟩:=r;cases h;done) | (cases r;done)
theorem y4w:OpR X (compareOp .Is) (fun x y H Q=>∃k,y=.bl k∧Q (.bl (decide (x=.bl k) != false)) H):=by
 intro pins s σ H x y v u Q I rx ry h
 obtain⟨k,rfl,q⟩:=h
 cases ry
 refine Yq5 (nobl rx) ⟨_,H,I,?_,q⟩
 rw[vbl rx]
 simp
 rfl
theorem y1f{G H:Hp}{d:D}{v:V}(r:Ct K G H d v)(k:Bool):decide (v=.bl k)=isBl k d:=by
 cases d with
 | bl j=>
   rw[Ct]at r
   subst r
   by_cases h:j=k
   ·subst h;simp[isBl]
   ·simp[isBl,h]
 | non=>rw[Ct]at r;subst r;simp[isBl]
 | int i=>rw[Ct]at r;subst r;simp[isBl]
 | str i=>rw[Ct]at r;obtain⟨rfl,_⟩:=r;simp[isBl]
 | tup l=>rw[Ct]at r;obtain⟨a,xs,rfl,_⟩:=r;simp[isBl]
 | lst l=>rw[Ct]at r;obtain⟨a,xs,rfl,_⟩:=r;simp[isBl]
 | scr l=>rw[Ct]at r;obtain⟨a,rfl,_⟩:=r;simp[isBl]
 | dct t l m=>rw[Ct]at r;obtain⟨a,xs,ys,rfl,_⟩:=r;simp[isBl]
theorem y1g{neg:Bool}:Ygt K (fun x y H Q=>∃k,y=.bl k∧Q (.bl (decide (x=.bl k) != neg)) H) (isB neg):=by
 intro x y dx dy c H G Q h s rx ry q
 unfold isB at h
 split at h
 ·rename_i k
  cases h
  have e:=y1f rx k
  rw[Ct]at ry
  subst ry
  exact⟨k,rfl,by rw[e];exact q⟩
 ·cases h
theorem y4x(ha:MC X a fa)(hb:MC X b fb):ME X (.Compare a [.Is] [b] pos) (mB (b2 fa fb (isB false))):=Yj6 y4w y1g ha hb (Yfz _)
noncomputable def minC:List D→Option D
 | [.int i,.int j]=>some (.int (if j < i then j else i))
 | _=>none
theorem Yv5{G H:Hp}{i j:Int}{vs:List V}(r:CtL K G H [.int i,.int j] vs):vs=[.int i,.int j]:=by
 obtain⟨x,r,rfl,h1,h2⟩:=r
 obtain⟨y,r,rfl,h3,h4⟩:=h2
 cases (show r=[] from h4)
 rw[Ct]at h1
 rw[Ct]at h3
 rw[h1,h3]
theorem Yv6:SemC K (fun xs H Q=>∃i j,xs=[.int i,.int j]∧Q (.int (if j < i then j else i)) H) minC:=by
 intro vs ds d H G Q h s r q
 unfold minC at h
 split at h
 ·rename_i i j
  cases h
  exact⟨i,j,Yv5 r,q _ H G (.refl s) (by rw[Rp])⟩
 ·cases h
theorem nr2{α:Sort _}{a b:α}(h:a=b):a=b:=h
@[simp] theorem isB_bl(neg:Bool)(d:D)(k:Bool):isB neg d (.bl k)=some (isBl k d != neg):=nr2 rfl
@[simp] theorem minC_ints(i j:Int):minC [.int i,.int j]=some (.int (if j < i then j else i)):=nr2 rfl
theorem Yv7(i:Int)(j:Nat):shrI (.int i) (.int (j:Int))=some (.int (i / 2 ^ j)):=by
 simp[shrI,i2]
end
end
section
set_option maxRecDepth 100000
section
variable {prog:Program} {w:World} {A:Around} {E:Value→Shared→Prop} {s:Shared}
theorem Yv8:typeLookup (.type "list") "keys"=pure none:=by rw[typeLookup_type,builtinLookup_eq_fast];kernel_rfl
theorem y1h{a:Addr}{o:Obj}{its:Array Value}{n:Nat}(ho:s.heap.get? a=some o)(h1:o.cls=.type "list")(h2:o.dict=none)(h3:o.data=.seq its n)(hh:A.handled=none){Q:Option Value→Shared→Prop}
 (hQ:∀h' tk,(∀b ob,s.heap.get? b=some ob→h'.get? b=some ob)→Q none { s with heap:=h',toks:=tk }) :
 wpAny (model prog w) A (getAttr? (.ref a) "keys") Q E s:=by
 obtain⟨c,dc,dat,sl⟩:=o
 simp only at h1 h2 h3
 subst h1 h2 h3
 obtain⟨hp,g,d,tk,os⟩:=s
 have hT:∀tk',(⟨hp,g,d,tk',os⟩:Shared).TypeIs (.ref a) "list":=fun _=>⟨_,ho,rfl⟩
 have q1:=sub_AttributeError
 have q2:=F.slot_list_getattribute.lookup
 have q3:=F.slot_list_getattribute.bind (.ref a)
 have q4:=am_list_getattr_none
 have q5:∀t,Meets (Builtin.«object.__getattribute__» ⟨[.ref a,.str "keys" t],[]⟩) _:=fun t=>meets_getattribute_miss_list a its n sl "keys" t Yv8 (by decide)
 unfold getAttr? getAttrBy? getAttrBy
 repeat (any_goals (first
  | assumption
  | exact hT _
  | ((with_reducible show wpAny _ _ (call (.builtin "list.__getattribute__") _ _) _ _ _)
     refine call_meets F.slot_list_getattribute (hT _) am_entry_list_getattribute (F.args_list_getattribute_2 _ _) (q5 _) ⟨ho,hh,fun h' tk' e new=>?_⟩)
  | wp_step))
 obtain⟨t',u',he⟩:=new.there
 show wpAny _ _ (getattributeRaised _ _ _ _ _ _ _) _ _ _
 unfold getattributeRaised
 repeat (any_goals (first
  | assumption
  | wp_step))
 exact hQ _ _ new.keeps
def PrAt(h:Heap)(u:Value)(p:Int × Value):Prop:=∃t tk o n,u=.ref t∧h.get? t=some o∧o.cls=.type "tuple"∧o.data=.seq #[.int p.1 tk,p.2] n
noncomputable def Yx8(h:Heap):List Value→List (Int × Value)→Prop
 | [],[]=>True
 | u::us,p::ps=>PrAt h u p∧Yx8 h us ps
 | _,_=>False
noncomputable def Yh2(kvs:List (Key × Value)):List (Int × Value)→List (Key × Value)
 | []=>kvs
 | p::ps=>Yh2 (stored kvs (Sum.inl p.1) p.2) ps
theorem Yts(kvs:List (Key × Value))(k:Key)(v:Value):(stored kvs k v).length≤kvs.length+1:=by
 unfold stored
 split
 ·rw[qe];lia
 ·simp
theorem Ype:entryFor table "dict.update.loop"=some Builtin.«dict.update.loop»:=entryFor_of_tree (by kernel_rfl)
theorem Yh3:plainId "dict.update.loop"=true:=by decide +kernel
def OldH(h0 h:Heap):Prop:=∀b o,h0.get? b=some o→h.get? b=some o
theorem OldH.but{h0 h h':Heap}{d:Addr}(hd:h0.get? d=none)(o:OldH h0 h)(e:Heap.SameBut d h h'):OldH h0 h':=fun b ob q=>by
 rw[e.2 b fun z=>by rw[z,hd]at q;cases q]
 exact o b ob q
theorem IsListIter.but{h h':Heap}{it L d:Addr}{i:Nat}(x:h.IsListIter it L i)(e:Heap.SameBut d h h')(hd:it≠d):h'.IsListIter it L i:=by
 obtain⟨o,ho,r⟩:=x
 exact⟨o,by rw[e.2 it hd];exact ho,r⟩
theorem dul{h0:Heap}{d it L:Addr}{items:List Value}{R:Result→Shared→Prop}(hh:A.handled=none)(hd0:h0.get? d=none)(hi0:h0.get? it=none)(hdi:d≠it)(hL:h0.IsList L items.toArray) :
 ∀(ps:List (Int × Value)) (i:Nat) (c:Int) (kvs:List (Key × Value)) (s:Shared),Yx8 h0 (items.drop i) ps→kvs.length+ps.length≤sizeLine→s.heap.IsListIter it L i→OldH h0 s.heap→s.heap.DictOf (Yao prog w) d kvs→
 (∀h' tk,OldH h0 h'→h'.DictOf (Yao prog w) d (Yh2 kvs ps)→R (.ok (.ret .none)) { s with heap:=h',toks:=tk })→
 codeAny (model prog w) A (.builtin "dict.update.loop" ⟨[.ref d,.ref it,.int c 0,.none],[]⟩) R s:=by
 intro ps
 induction ps with
 | nil=>
   intro i c kvs s hp hz hit ho hd hR
   have hL':s.heap.IsList L items.toArray:=let ⟨o,e,r⟩:=hL;⟨o,ho _ _ e,r⟩
   have hx:items.toArray[i]?=none:=by
    cases hdr:items.drop i with
    | nil=>simpa using hdr
    | cons u us=>rw[hdr]at hp;exact hp.elim
   refine codeAny_builtin Ype ?_
   rw[Around.under_plainId Yh3 _]
   show wpAny _ A.in1 (pyNext (.ref it) >>= _) _ _ s
   refine wpAny_bind (wpAny_pyNext_list_end (A:=A.in1) hh hit hL' hx fun h' hs=>?_)
   show wpAny _ A.in1 (Builtin.Dict.addKeywords d [] >>= _) _ _ _
   refine wpAny_bind (wpAny_pure (wpAny_pure (hR h' s.toks (fun b ob q=>hs b ob (fun z=>by rw[z,hi0]at q;cases q) (ho b ob q)) (hd.extBut hs hdi))))
 | cons p ps ih=>
   intro i c kvs s hp hz hit ho hd hR
   have hL':s.heap.IsList L items.toArray:=let ⟨o,e,r⟩:=hL;⟨o,ho _ _ e,r⟩
   cases hdr:items.drop i with
   | nil=>rw[hdr]at hp;exact hp.elim
   | cons u us=>
     rw[hdr]at hp
     obtain⟨⟨t,tk,ob,n,rfl,ht,hc,hdat⟩,hp⟩:=hp
     have hx:items.toArray[i]?=some (.ref t):=by
      have:=congrArg List.head? hdr
      simpa [List.head?_drop]using this
     have hus:us=items.drop (i+1):=by
      have:=congrArg List.tail hdr
      simpa using this.symm
     refine codeAny_builtin Ype ?_
     rw[Around.under_plainId Yh3 _]
     show wpAny _ A.in1 (pyNext (.ref it) >>= _) _ _ s
     refine wpAny_bind (wpAny_pyNext_list_item hit hL' hx fun h1 hi1 hs1=>?_)
     have ho1:=OldH.but hi0 ho hs1
     have hd1:=hd.sameBut hs1 hdi
     have ht1:=ho1 _ _ ht
     have hT:(Shared.TypeIs { s with heap:=h1 } (.ref t) "tuple"):=⟨ob,ht1,hc⟩
     show wpAny _ A.in1 (holding [Value.ref t] _ >>= _) _ _ _
     refine wpAny_bind (wpAny_holding (wpAny_bind (wpAny_tryCatch ?_)))
     unfold Builtin.Dict.pairItems
     refine wpAny_bind (wpAny_typeOf hT ?_)
     rw[if_pos (by decide)]
     refine wpAny_bind (wpAny_seqItems ht1 hdat (wpAny_pure ?_))
     show wpAny _ A.in1 (holding [Value.int p.1 tk,p.2] (dictSet d (.int p.1 tk) p.2)) _ _ _
     refine wpAny_holding (wpAny_dictSet_pairs (s:={ s with heap:=h1 }) (knd:=Yao prog w) (k:=Sum.inl p.1) (Yuu (k:=.inl p.1) (u:=.int p.1 tk) ⟨tk,rfl⟩) hd1 (fun h2 hd2 hs2=>?_) (by have:=qq (a:=p) (as:=ps);lia))
     refine wpAny_pure ⟨plainId_quiet Yh3 _,?_⟩
     refine ih (i+1) (c+1) _ _ (by rw[←hus];exact hp) ?_ (IsListIter.but hi1 hs2 (Ne.symm hdi)) (OldH.but hd0 ho1 hs2) hd2 fun h' tk' o' d'=>hR h' tk' o' d'
     have:=Yts kvs (Sum.inl p.1) p.2
     have:=qq (a:=p) (as:=ps)
     lia
theorem Ykj{L:Addr}{its:List Value}{ps:List (Int × Value)}{Q:Value→Shared→Prop}(hh:A.handled=none)(hL:PlainL s.heap L its.toArray)(hp:Yx8 s.heap its ps)(hz:ps.length≤sizeLine)
 (hQ:∀h' tk,OldH s.heap h'→h'.DictOf (Yao prog w) s.heap.objs.size (Yh2 [] ps)→Q (.ref s.heap.objs.size) { s with heap:=h',toks:=tk }) :
 wpAny (model prog w) A (call (.type "dict") [.ref L]) Q E s:=by
 generalize hO:({ cls:=.type "dict",data:=.dict #[] }:Obj)=dO
 refine callType_codes (Q₁:=fun obj s₁=>obj=.ref s.heap.objs.size∧s₁={ s with heap:=s.heap.push dO }) F.kt_called_dict (F.kt_typeCall_dict_1 _) F.entry_dict_init (kt_code_dict_new _ ⟨rfl,by rw[hO]⟩) ?_
 rintro obj s₁ ⟨rfl,rfl⟩
 have hnew:(s.heap.push dO).DictOf (Yao prog w) s.heap.objs.size []:=by rw[←hO];exact Heap.DictOf.new s.heap
 refine⟨hnew.typeIs,F.args_dict_init_2 _ _,?_⟩
 unfold Builtin.«dict.__init__»
 refine wpAny_bind ?_
 unfold Builtin.Dict.selfAndRest
 refine wpAny_bind (wpAny_notOrdered_dict hnew.typeIs ?_)
 show wpAny _ _ (pure (s.heap.objs.size,[Value.ref L])) _ _ _
 refine wpAny_pure ?_
 show wpAny _ _ (Builtin.Dict.updateFrom "dict.__init__" s.heap.objs.size (.ref L) [] .none) _ _ _
 unfold Builtin.Dict.updateFrom
 obtain⟨o,n,e,h1,h2,h3⟩:=hL
 have e':(s.heap.push dO).get? L=some o:=qd _ e
 have hT:Shared.TypeIs { s with heap:=s.heap.push dO } (.ref L) "list":=⟨o,e',h1⟩
 refine wpAny_bind (wpAny_typeOf hT ?_)
 rw[if_pos (by decide)]
 refine wpAny_bind (y1h (A:=A.in1.in1) (s:={ s with heap:=s.heap.push dO }) e' h1 h2 h3 (by simp[hh]) fun h' tk keep=>?_)
 rw[if_pos (by rfl)]
 refine wpAny_bind (wpAny_rule (wpAny_bind ?_))
 have hL':h'.IsList L its.toArray:=⟨o,keep _ _ e',h1,n,h3⟩
 refine wpAny_pyIter_list (s:={ s with heap:=h',toks:=tk }) hL' ?_
 have old1:OldH s.heap h':=fun b ob q=>keep _ _ (qd _ q)
 obtain⟨od,es,ep,hod,hrest⟩:=id hnew
 have hd':=keep _ _ hod
 have hlt:s.heap.objs.size < h'.objs.size:=qk hd'
 generalize hI:({ cls:=.type "list_iterator",data:=.fields #[.ref L,.int 0 0] }:Obj)=iO
 refine wpAny_pure ⟨plainId_quiet Yh3 _,?_⟩
 refine dul (h0:=s.heap) (by simp[hh]) (Heap.get?_none_of_le (qt _)) (Heap.get?_none_of_le (Nat.le_of_lt hlt)) (ql hlt) ⟨o,e,h1,n,h3⟩ ps 0 0 [] _ (by simpa using hp) (by simpa using hz) ?_ (fun b ob q=>qd _ (old1 b ob q)) ⟨od,es,ep,qd _ hd',hrest⟩ fun h2 tk2 o2 d2=>?_
 ·exact⟨iO,qo _ (by rw[←hI];rfl),by rw[←hI],by rw[←hI];rfl⟩
 ·exact⟨rfl,hQ h2 tk2 o2 d2⟩
end
noncomputable def Ysp(H:Hp):List V→List (Int × V)→Prop
 | [],[]=>True
 | x::xs,q::qs=>(∃b,x=.ref b∧H b=some (.tup [.int q.1,q.2]))∧Ysp H xs qs
 | _,_=>False
noncomputable def Yh4(kvs:List (Key × V)):List (Int × V)→List (Key × V)
 | []=>kvs
 | q::qs=>Yh4 (putK kvs (Sum.inl q.1) q.2) qs
noncomputable def QP:List (Int × V)→List (Int × Value)→Prop
 | [],[]=>True
 | q::qs,p::ps=>(q.1=p.1∧RelV q.2 p.2)∧QP qs ps
 | _,_=>False
theorem QP.length:∀{qs:List (Int × V)} {ps:List (Int × Value)},QP qs ps→ps.length=qs.length
 | [],[],_=>rfl
 | q::qs,p::ps,h=>by rw[qq,qq,QP.length h.2]
 | [],_::_,h=>h.elim
 | _::_,[],h=>h.elim
theorem Ysq:∀{qs:List (Int × V)} {ps:List (Int × Value)} {kvs:List (Key × V)} {vs:List (Key × Value)},QP qs ps→KV kvs vs→KV (Yh4 kvs qs) (Yh2 vs ps)
 | [],[],_,_,_,r=>r
 | q::qs,p::ps,kvs,vs,h,r=>by
   obtain⟨⟨h1,h2⟩,h⟩:=h
   rw[Yh4,Yh2,←h1]
   exact Ysq h (r.put (Sum.inl q.1) h2)
 | [],_::_,_,_,h,_=>h.elim
 | _::_,[],_,_,h,_=>h.elim
theorem Ymk:∀(qs:List (Int × V)) (kvs:List (Key × V)),(Yh4 kvs qs).length≤kvs.length+qs.length
 | [],kvs=>by rw[Yh4];simp
 | q::qs,kvs=>by
   rw[Yh4,qq]
   have h1:=Ymk qs (putK kvs (Sum.inl q.1) q.2)
   have h2:=Yg8 kvs (Sum.inl q.1) q.2
   lia
section
variable {X:Cx}
theorem Ypf{pins:List (Addr × Obj)}{s:Shared}{σ:L2.St}{H:Hp}(I:Inv X pins σ H s):∀{ys:List V} {its:List Value} {qs:List (Int × V)},Ysp H ys qs→Vals ys its→∃ps,Yx8 s.heap its ps∧QP qs ps
 | [],its,[],_,r=>by
   cases r
   exact⟨[],trivial,trivial⟩
 | y::ys,its,q::qs,h,r=>by
   obtain⟨⟨b,rfl,hb⟩,h⟩:=h
   cases r with
   | cons r1 r2=>
     cases r1
     obtain⟨ps,h1,h2⟩:=Ypf I h r2
     obtain⟨its2,rv,⟨o,e,hc,n,hd⟩,_⟩:=I.tuple (xs:=[.int q.1,q.2]) (.of hb)
     cases rv with
     | cons ra rb=>
       cases rb with
       | cons rc rd=>
         cases rd
         obtain⟨t,rfl⟩:=ra
         exact⟨(q.1,_)::ps,⟨⟨b,t,o,n,rfl,e,hc,hd⟩,h1⟩,⟨⟨rfl,rc⟩,h2⟩⟩
 | [],_,_::_,h,_=>h.elim
 | _::_,_,[],h,_=>h.elim
noncomputable def y4y(K:W.Frag):List V→Hp→VK→Prop:=fun xs H Q=>∃a ys qs,xs=[.ref a]∧SqL K H a ys∧Ysp H ys qs∧qs.length < cap6∧∀p,H p=none→Q (.ref p) (upd H p (.dK (Yh4 [] qs)))
theorem Ytt(hc:X.calm=true):Ydx X (.type "dict") (y4y X.K):=by
 intro pins s σ H xs us Q I r h
 obtain⟨a,ys,qs,rfl,hq,hv,hl,q⟩:=h
 obtain⟨u,rfl,rx⟩:=Yhu r
 cases rx
 have hh:X.A.handled=none:=I.ok.hd hc
 obtain⟨its,rv,pl,hz⟩:=I.list hq
 obtain⟨ps,h1,h2⟩:=Ypf I hv rv
 have hcap:cap6=1000000:=rfl
 have hps:ps.length≤sizeLine:=by rw[h2.length,sizeLine_eq];lia
 refine Ykj hh pl h1 hps fun h' tk old dd=>?_
 refine⟨.ref s.heap.objs.size,_,I.laid (t':=tk) (fun b o e=>old b o e) (qt _) (Yy8 ?_ (beq_eq_false_iff_ne.mpr (Ne.symm (ql I.big))) (Ysq h2 .nil) dd),rfl,q _ (I.hok.fresh (qt _))⟩
 have:=Ymk qs []
 rw[sizeLine_eq]
 simp at this
 lia
end
noncomputable def Ygz:List D→Option (List (Int × D))
 | []=>some []
 | .tup [.int i,v]::l=>(Ygz l).map ((i,v)::·)
 | _=>none
noncomputable def pairsOf:D→Option (List (Int × D))
 | .lst l=>Ygz l
 | _=>none
noncomputable def putG{α:Type}(ns:List Int)(vs:List α)(i:Int)(y:α):List Int × List α:=if i∈ns then (ns,setK ns vs i y)else (ns++[i],vs++[y])
noncomputable def dctG{α:Type}(ns:List Int)(vs:List α):List (Int × α)→List Int × List α
 | []=>(ns,vs)
 | p::ps=>dctG (putG ns vs p.1 p.2).1 (putG ns vs p.1 p.2).2 ps
theorem Ytu{α:Type}{ns:List Int}{vs:List α}{i:Int}{y:α}(h:ns.Nodup):(putG ns vs i y).1.Nodup:=by
 unfold putG
 split
 ·exact h
 ·rename_i hm
  rw[List.nodup_append]
  refine⟨h,by simp,fun x hx z hz e=>?_⟩
  simp at hz
  subst hz e
  exact hm hx
theorem Yx9{α:Type}{ns:List Int}{vs:List α}{i:Int}{y:α}(h:ns.length=vs.length):(putG ns vs i y).1.length=(putG ns vs i y).2.length:=by
 unfold putG
 split
 ·rw[Yhd];exact h
 ·simp[h]
variable {K:W.Frag}
noncomputable def DQ(K:W.Frag)(G:Hp):List (Int × D)→List (Int × V)→Prop
 | [],[]=>True
 | d::ds,q::qs=>(d.1=q.1∧Rp K G d.2 q.2)∧DQ K G ds qs
 | _,_=>False
theorem DQ.length{G:Hp}:∀{ds:List (Int × D)} {qs:List (Int × V)},DQ K G ds qs→qs.length=ds.length
 | [],[],_=>rfl
 | q::qs,p::ps,h=>by rw[qq,qq,DQ.length h.2]
 | [],_::_,h=>h.elim
 | _::_,[],h=>h.elim
theorem Ypg{G H:Hp}(s:Same G H):∀{l:List D} {ps:List (Int × D)} {xs:List V},Ygz l=some ps→RpL K G l xs→∃qs,Ysp H xs qs∧DQ K G ps qs
 | [],ps,xs,e,r=>by
   rw[Ygz]at e
   cases e
   rw[RpL]at r
   subst r
   exact⟨[],trivial,trivial⟩
 | d::l,ps,xs,e,r=>by
   unfold Ygz at e
   split at e
   case h_1 he=>cases he
   case h_2 i v l' he=>
    injection he with he1 he2
    subst he1 he2
    obtain⟨ps',h1,rfl⟩:=qb e
    rw[RpL]at r
    obtain⟨x,xr,rfl,rx,rr⟩:=r
    obtain⟨qs,h2,h3⟩:=Ypg s h1 rr
    rw[Rp]at rx
    obtain⟨b,ys,rfl,hb,ry⟩:=rx
    rw[RpL]at ry
    obtain⟨y1,yr,rfl,r1,ry⟩:=ry
    rw[RpL]at ry
    obtain⟨y2,yr,rfl,r2,ry⟩:=ry
    rw[RpL]at ry
    subst ry
    rw[Rp]at r1
    subst r1
    exact⟨(i,y2)::qs,⟨⟨b,rfl,s _ _ hb⟩,h2⟩,⟨⟨rfl,r2⟩,h3⟩⟩
   case h_3=>cases e
theorem Yph{G:Hp}:∀{ps:List (Int × D)} {qs:List (Int × V)} {ns:List Int} {ds:List D} {vxs:List V},DQ K G ps qs→ns.Nodup→ns.length=vxs.length→RpL K G ds vxs→
 ∃vx',Yh4 (zK ns vxs) qs=zK (dctG ns ds ps).1 vx'∧(dctG ns ds ps).1.Nodup∧(dctG ns ds ps).1.length=vx'.length∧RpL K G (dctG ns ds ps).2 vx'
 | [],[],ns,ds,vxs,_,h1,h2,h3=>⟨vxs,rfl,h1,h2,h3⟩
 | d::ps,q::qs,ns,ds,vxs,h,h1,h2,h3=>by
   obtain⟨⟨e,r⟩,h⟩:=h
   rw[Yh4,Yzo h2 h1,dctG]
   have e1:(putI ns vxs q.1 q.2).1=(putG ns ds d.1 d.2).1:=by
    unfold putI putG
    rw[e]
    split<;>rfl
   rw[e1]
   refine Yph h (Ytu h1) ?_ ?_
   ·rw[←e1]
    exact Yx9 (vs:=vxs) h2
   ·unfold putI putG
    rw[e]
    split
    ·exact Yq0 q.1 r h3
    ·exact RpL.snoc r h3
 | [],_::_,_,_,_,h,_,_,_=>h.elim
 | _::_,[],_,_,_,h,_,_,_=>h.elim
section
variable {X:Cx} {e:Expr} {f:Ro→Option D} {pos:Pos}
noncomputable def sDct(i:Nat)(f:Ro→Option D):Ro→Option Out:=fun ρ=>((f ρ).bind pairsOf).bind fun ps=>if ps.length < cap6 then some (.nx (ρ.set i (some (.od false ((dctG [] [] ps).1.map D.int) (dctG [] [] ps).2))))else none
theorem y4z(hc:X.calm=true)(i:Nat){x:Str}{pos' p2 cpos:Pos}(hN:X.N.Nodup)(hg:Gl X "dict")(hm:X.mg "dict"=none)(ha:MC X e f)(hi:X.N[i]?=some x:=by rfl)(hx:Loc X.env.scope x:=by first | exact Or.inl rfl | exact Or.inr rfl)
 (hst:starEach [e] X.env=[(false,eval e X.env)]:=by rfl) (hpl:(backTo cpos (starEach [] X.env)).any (·.1)=false:=by rfl)
 (hs:swapsWith (.Call (.Name "dict" p2) [e] [] cpos) (some (.Name x pos')) pos.line X.env=pure false:=by rfl)
 (hf:X.fn x=true∨X.env.scope.names.lookup x=some .local:=by first | exact .inl rfl | exact .inr rfl):MS X (.Assign [.Name x pos'] (.Call (.Name "dict" p2) [e] [] cpos) pos) (sDct i f):=
 PS.imp (Yui hN hi hx (Yhv (Ytt hc) hg hm (by decide +kernel) (Ynb ha Yqy hst) (by decide) (by decide) hst hpl) hs hf) fun F σ H hx_=>by
  obtain⟨ρ,out,H0,G0,G,e,s,h⟩:=hx_
  unfold sDct at e
  obtain⟨ps,h1,e⟩:=qa e
  obtain⟨d,h2,h3⟩:=qa h1
  split at e
  case isFalse=>cases e
  rename_i hcap
  cases e
  refine tCAof.at (show Yh f aNil ρ=some [d] by simp[Yh,aNil,h2]) s fun vs H1 G1 g1 r1 s1=>?_
  obtain⟨v,rfl,rv⟩:=Yes r1
  cases d with
  | lst l=>
    rw[Ct]at rv
    obtain⟨a,xs,rfl,hq,rl⟩:=rv
    obtain⟨qs,h4,h5⟩:=Ypg s1.seen (show Ygz l=some ps from h3) rl
    refine⟨a,xs,qs,rfl,.inl hq,h4,by rw[h5.length];exact hcap,fun p hp=>?_⟩
    obtain⟨vx',k1,k2,k3,k4⟩:=Yph (ns:=[]) (ds:=[]) (vxs:=[]) h5 List.nodup_nil rfl .nil
    exact h _ _ G1 (s1.set_od i (.hid s1.seen hp _) hp (s1.seen.free hp) (kxs:=(dctG [] [] ps).1.map V.int) (vxs:=vx') (y4q (by rw[←k1];exact y0) k2 k3) (.ints _) k4)
  | _=>cases h3
@[simp] theorem y1i{ρ:Ro}(i:Nat):sDct i f ρ=((f ρ).bind pairsOf).bind fun ps=>if ps.length < cap6 then some (.nx (ρ.set i (some (.od false ((dctG [] [] ps).1.map D.int) (dctG [] [] ps).2))))else none:=nr1 rfl
@[simp] theorem pairsOf_lst(l:List D):pairsOf (.lst l)=Ygz l:=nr1 rfl
end
section
variable {prog:Program} {w:World} {A:Around} {E:Value→Shared→Prop} {s:Shared}
noncomputable def Ypi:Int:=4238894112
theorem Yv9{Q:Int→Shared→Prop}(h:Q Ypi { s with toks:=s.toks+1 }):wpAny (model prog w) A (pyHash .none) Q E s:=by
 have hT:s.TypeIs .none "NoneType":=rfl
 unfold pyHash pyHashByItsType
 have hv:[Value.none].any Value.onHeap=false:=rfl
 refine wpAny_bind ?_
 rw[cRoomFor,if_neg (by rw[hv];exact qh)]
 refine wpAny_pure (wpAny_bind (wpAny_specialOf hT F.slot_NoneType_hash.lookup ?_))
 show wpAny _ _ (if (some (Value.builtin "NoneType.__hash__")==some Value.none)=true then _ else _) Q E s
 rw[if_neg (by decide)]
 refine wpAny_bind (wpAny_specialOf hT F.slot_NoneType_hash.lookup ?_)
 show wpAny _ _ (callSpecialIfBoundUnlessNone? .none "__hash__" _ >>= _) Q E s
 refine wpAny_bind (wpAny_callSpecialIfBoundUnlessNone?_slot hT F.slot_NoneType_hash
  (wpAny_call_entry F.slot_NoneType_hash hT F.entry_NoneType_hash
   (show wpAny _ _ (do ret (←mkInt Ypi)) _ _ s from wpAny_ret_mkInt ?_) (F.args_NoneType_hash_1 _)))
 show wpAny _ _ (if (decide (-(2:Int) ^ 63≤Ypi)&&decide (Ypi < 2 ^ 63))=true then _ else _) Q E _
 rw[if_pos (by decide)]
 exact wpAny_pure h
theorem Yya{d:Addr}{o:Obj}{es:Array DictEntry}{ep:Nat}{Q:Option Value→Shared→Prop}(ho:s.heap.get? d=some o)(hd:o.data=.dict es ep)(hn:∀e∈es,e.hash≠Ypi)(h:Q none { s with toks:=s.toks+1 }) :
 wpAny (model prog w) A (dictGet d .none) Q E s:=by
 have hpl:placesWithHash es.size (fun i=>es[i]?.map (·.hash)) Ypi=[]:=by
  unfold placesWithHash
  rw[List.filter_eq_nil_iff]
  intro i hi
  have hl:i < es.size:=Qa hi
  intro z
  simp only[Array.getElem?_eq_getElem hl,Option.map_some]at z
  exact hn _ (Array.getElem_mem hl) (by simpa using z)
 unfold dictGet
 refine wpAny_holding (wpAny_bind (Yv9 (wpAny_bind ?_)))
 unfold dictFind
 refine wpAny_holding (wpAny_bind (wpAny_dictEntries (s:={ s with toks:=s.toks+1 }) ho hd ?_))
 dsimp only
 rw[hpl]
 show wpAny _ _ (if ([Value.none].all carriedByValue)=true then _ else _) _ _ _
 rw[if_pos (by rfl)]
 exact wpAny_pure (wpAny_pure h)
noncomputable def Yml(ns:List Int):Bool:=ns.all fun n=>decide (-1000000000 < n∧n < 1000000000)
theorem Ywa{kvs:List (Key × Value)}:∀{es:List DictEntry},Pairs (Yao prog w) es kvs→∀e∈es,∃kv∈kvs,(Yao prog w).is kv.1 e.key=true:=by
 intro es h
 induction h with
 | nil=>intro e he;cases he
 | cons h1 _ _ ih=>
   intro e he
   rcases qr he with rfl | he
   ·exact⟨_,qg,h1⟩
   ·obtain⟨kv,k1,k2⟩:=ih e he
    exact⟨kv,qf _ k1,k2⟩
theorem y1j{d:Addr}{kvs:List (Key × Value)}{ns:List Int}{Q:Option Value→Shared→Prop}(hm:s.heap.DictOf (Yao prog w) d kvs)(hk:kvs.map (·.1)=ns.map Sum.inl)(hs:Yml ns=true)(h:Q none { s with toks:=s.toks+1 }) :
 wpAny (model prog w) A (dictGet d .none) Q E s:=by
 obtain⟨o,es,ep,ho,_,hd,hk1,hp,_⟩:=hm
 refine Yya ho hd (fun e he=>?_) h
 obtain⟨k,k1,k2⟩:=hk1 e he
 obtain⟨kv,k3,k4⟩:=Ywa hp e (by simpa using he)
 have ek:k=kv.1:=(Yao prog w).inj _ _ _ k1 k4
 have hmem:kv.1∈kvs.map (·.1):=List.mem_map_of_mem k3
 rw[hk]at hmem
 obtain⟨n,hn,en⟩:=qw hmem
 have hsm:=List.all_eq_true.mp hs n hn
 simp only[decide_eq_true_eq]at hsm
 rw[k2,ek,←en]
 show hashInt n≠Ypi
 intro z
 have:hashInt n=n∨hashInt n=-2:=by
  have e0:((2 ^ 61 - 1:Nat):Int)=2305843009213693951:=by decide
  have e:(n.natAbs:Int) % ((2 ^ 61 - 1:Nat):Int)=(n.natAbs:Int):=Int.emod_eq_of_lt (by lia) (by rw[e0];lia)
  have e2:(if n < 0 then -(n.natAbs:Int)else (n.natAbs:Int))=n:=by split<;>lia
  have e3:rawHash n=if (n==-1)=true then -2 else n:=by
   unfold rawHash
   simp only[e,e2]
  unfold hashInt
  rw[e3]
  by_cases h1:n=-1
  ·subst h1;right;decide
  ·left
   have h2:(n==-1)=false:=by simpa using h1
   simp[h2]
 unfold Ypi at z
 lia
end
section
variable {prog:Program} {w:World} {A:Around} {E:Value→Shared→Prop} {s:Shared}
theorem Yyb{d:Addr}{kvs:List (Key × Value)}{ns:List Int}{Q:Bool→Shared→Prop}(hd:(d==sysModules)=false)(hm:s.heap.DictOf (Yao prog w) d kvs)(hk:kvs.map (·.1)=ns.map Sum.inl)(hs:Yml ns=true)
 (h:Q false { s with toks:=s.toks+1 }):wpAny (model prog w) A (contains (.ref d) .none) Q E s:=by
 have hT:=hm.typeIs
 unfold contains
 refine wpAny_holding (wpAny_bind (wpAny_specialOf hT slot_dict_contains.lookup ?_))
 show wpAny _ _ (if (some (Value.builtin "dict.__contains__")==some Value.none)=true then _ else _) _ _ _
 rw[if_neg (by decide)]
 refine wpAny_bind (wpAny_callSpecialUnlessNone?_slot (name:=Str.ofString "__contains__") hT slot_dict_contains (wpAny_call_entry slot_dict_contains hT entry_dict_contains ?_ (args_dict_contains _ _)))
 show wpAny _ _ (dictGet d .none >>= _) _ _ s
 refine wpAny_bind (y1j hm hk hs ?_)
 show wpAny _ _ (Builtin.Dict.pendingKey? d .none >>= _) _ _ _
 exact wpAny_bind (wpAny_pendingKey_other hd (wpAny_pure ⟨_,rfl,wpAny_truthy_bool h⟩))
end
noncomputable def hasN(neg:Bool):D→D→Option Bool
 | .int i,.dct false ks vs=>hasI neg (.int i) (.dct false ks vs)
 | .non,.dct false ks _=>(Ycu ks).bind fun ns=>if Yml ns=true then some (false != neg)else none
 | _,_=>none
noncomputable def rInN(neg:Bool):R2:=fun x y H Q=>rInI neg x y H Q∨(x=.non∧∃a kvs ns,y=.ref a∧H a=some (.dK kvs)∧kvs.map (·.1)=ns.map Sum.inl∧Yml ns=true∧Q (.bl (false != neg)) H)
theorem Yyc{neg:Bool}:Ygt K (rInN neg) (hasN neg):=by
 intro x y dx dy b H G Q h s rx ry q
 unfold hasN at h
 split at h
 ·exact .inl (Yso x y _ _ b H G Q h s rx ry q)
 ·rename_i ks vs
  obtain⟨ns,h1,h⟩:=qa h
  split at h
  case isFalse=>cases h
  rename_i hsm
  injection h with h
  subst h
  rw[Ct]at rx
  rw[Ct]at ry
  subst rx
  obtain⟨a,kxs,vxs,rfl,dc,r1,r2⟩:=ry
  obtain⟨e1,e2,e3,e4⟩:=Yx6 h1 dc r1
  exact .inr ⟨rfl,a,_,ns,rfl,e1,Yf3 ns vxs e3,hsm,q⟩
 ·cases h
section
variable {X:Cx}
theorem y1k{kvs:List (Key × V)}{vs:List (Key × Value)}(rel:KV kvs vs):vs.map (·.1)=kvs.map (·.1):=by
 induction rel with
 | nil=>rfl
 | cons r _ ih=>rw[Qc,Qc,r.1,ih]
theorem y1l(hu:X.A.units+64 < cLine):OpR X (compareOp .NotIn) (rInN true):=by
 intro pins s σ H x y v u Q I rx ry h
 rcases h with h | ⟨rfl,a,kvs,ns,rfl,ha,hk,hs,q⟩
 ·exact Yv1 hu pins s σ H x y v u Q I rx ry h
 ·cases rx
  cases ry
  obtain⟨z,hd,vs,rel,dd⟩:=y3c I.hok ha
  show wpAny _ _ (do return Value.bool (!(←contains (.ref a) .none))) _ _ s
  refine wpAny_bind (Yyb hd dd ((y1k rel).trans hk) hs (wpAny_pure ?_))
  exact⟨.bl (false != true),H,I.tok _,rfl,q⟩
variable {a b e f':Expr} {fa fb f fz:Ro→Option D} {pos:Pos}
theorem y1m(hu:X.A.units+64 < cLine)(ha:MC X a fa)(hb:MC X b fb)(hm:behindInMarks .NotIn b=false:=by with_unfolding_all rfl):MT X (.Compare a [.NotIn] [b] pos) (b2 fa fb (hasN true)):=Yhz (y1l hu) Yyc ha hb hm
@[simp] theorem Yyd(neg:Bool)(ks vs:List D)(i:Int):hasN neg (.int i) (.dct false ks vs)=(Ycu ks).map fun ns=>decide (i∈ns) != neg:=nr1 rfl
@[simp] theorem Yye(neg:Bool)(ks vs:List D):hasN neg .non (.dct false ks vs)=(Ycu ks).bind fun ns=>if Yml ns=true then some (false != neg)else none:=nr1 rfl
end
end
section
end
section
section
variable {prog:Program} {w:World} {A:Around} {E:Value→Shared→Prop} {s:Shared}
theorem Yq6{t sl:Addr}{items:Array Value}{vl vu:Value}{lo hi:Option Int}{Q:Value→Shared→Prop}(ht:IsTup s.heap t items)(hs:s.heap.IsSliceOf sl vl vu .none)(pl:IsPart vl lo)(pu:IsPart vu hi)
 (h0:HT.sIx items.size 0 lo=0) (h1:HT.sIx items.size items.size hi=items.size) (h:Q (.ref t) s):wpAny (model prog w) A (getItem (.ref t) (.ref sl)) Q E s:=by
 obtain⟨os,hos,hcs,hds⟩:=id hs
 have hTs:s.TypeIs (.ref sl) "slice":=⟨os,hos,hcs⟩
 unfold getItem
 try with_reducible refine wpAny_holding ?_
 first | refine wpAny_bind (wpAny_pure ?_) | skip
 refine wpAny_bind (wpAny_sequenceKey ht.typeIs (by decide) ?_)
 refine wpAny_bind (wpAny_callSpecial?_slot (name:=Str.ofString "__getitem__") ht.typeIs PyProof.Rows.slot_tuple_getitem (wpAny_call_entry PyProof.Rows.slot_tuple_getitem ht.typeIs entry_tuple_getitem ?_ (args_tuple_getitem _ _)))
 show wpAny _ _ (Builtin.Tuple.tupleItemsOf (.ref t) >>= _) _ _ s
 refine wpAny_bind (tupleItemsOf_ ht ?_)
 refine wpAny_bind (wpAny_typeOf hTs ?_)
 rw[if_pos (by decide)]
 refine wpAny_bind (HT.sliceApplied_gen hs pl pu ?_)
 show wpAny _ _ (if (((HT.sIx items.size 0 lo:Nat):Int)==0&&(1:Int)==1&&(HT.sIx items.size items.size hi - HT.sIx items.size 0 lo)==items.size)=true then _ else _) _ _ s
 rw[if_pos (by rw[h0,h1];simp)]
 refine wpAny_bind ?_
 unfold Builtin.Tuple.tupleIsExact
 refine wpAny_bind (wpAny_typeOf ht.typeIs (wpAny_pure ?_))
 rw[if_pos (by decide)]
 exact wpAny_bind (wpAny_rule (wpAny_pure ⟨_,rfl,wpAny_pure h⟩))
end
section
variable {X:Cx}
noncomputable def rSlW(K:W.Frag):V→Option Int→Option Int→Hp→VK→Prop:=fun x lo hi H Q=>∃a xs,x=.ref a∧SqT K H a xs∧HT.sIx xs.length 0 lo=0∧HT.sIx xs.length xs.length hi=xs.length∧Q (.ref a) H
theorem Yyf:SlR X (rSlW X.K):=by
 intro pins s σ H x v vl vu lo hi sl Q I rx hs pl pu h
 obtain⟨a,xs,rfl,hx,h0,h1,q⟩:=h
 cases rx
 obtain⟨its,r,ht,hz⟩:=I.tuple hx
 have hlen:its.toArray.size=xs.length:=by rw[qj];exact r.length.symm
 refine⟨"tuple",_,PyProof.Rows.slot_tuple_getitem.lookup,ht.typeIs,Yq6 ht hs pl pu (by rw[hlen];exact h0) (by rw[hlen];exact h1) ?_⟩
 exact⟨.ref a,H,I,rfl,q⟩
noncomputable def cutC(i j:Option Int):D→Option D
 | .lst l=>some (.lst (cutD l i j))
 | .tup l=>some (.tup (cutD l i j))
 | _=>none
noncomputable def slD(fa:Ro→Option D)(lo hi:Option (Ro→Option D)):Ro→Option D:=fun ρ=>(fa ρ).bind fun d=>(optI lo ρ).bind fun i=>(optI hi ρ).bind fun j=>cutC i j d
variable {a e:Expr} {fa f:Ro→Option D} {pos:Pos}
theorem Yyg{lo hi:Option Expr}{fl fh:Option (Ro→Option D)}{p2:Pos}(ha:MC X a fa)(hl:PO X lo (tO X.K fl))(hh:PO X hi (tO X.K fh)):ME X (.Subscript a (.Slice lo hi none p2) pos) (slD fa fl fh):=
 PE.imp (Ysb (SlR.or Yuz (SlR.or y3f Yyf)) ha hl hh) fun σ H Q hx_=>by
  obtain⟨ρ,d,H0,G0,G,e,s,h⟩:=hx_
  unfold slD at e
  obtain⟨d0,h1,e⟩:=qa e
  obtain⟨i,h2,e⟩:=qa e
  obtain⟨j,h3,e⟩:=qa e
  refine tCof.at h1 s fun v H1 G1 g1 r1 s1=>Yxt h2 s1 fun H2 G2 g2 s2=>Yxt h3 s2 fun H3 G3 g3 s3=>?_
  have r3:=(r1.grow g2).grow g3
  have gg:=(g1.trans g2).trans g3
  unfold cutC at e
  split at e
  ·rename_i l
   cases e
   rw[Ct]at r3
   obtain⟨p,xs,rfl,g,rl⟩:=r3
   refine .inl ⟨p,xs,rfl,.inl g,fun q hq=>?_⟩
   refine h _ _ _ (gg.trans (Gr.new (p:=q) s3.seen hq (.lst (cutV xs i j)))) ?_
   rw[Rp]
   refine⟨q,_,rfl,.inl y0,?_⟩
   unfold cutD cutV
   rw[rl.length]
   exact((rl.drop _).take _).mono (Gr.new (p:=q) s3.seen hq _).g
  ·cases e
   rw[Ct]at r3
   obtain⟨p,xs,rfl,⟨g,gG⟩,rl⟩:=r3
   by_cases hw:HT.sIx xs.length 0 i=0∧HT.sIx xs.length xs.length j=xs.length
   ·refine .inr (.inr ⟨p,xs,rfl,.of g,hw.1,hw.2,h _ H3 G3 gg ?_⟩)
    rw[Rp]
    refine⟨p,xs,rfl,gG,?_⟩
    unfold cutD
    rw[←rl.length,hw.1,hw.2,List.drop_zero,Nat.sub_zero,rl.length,List.take_length]
    exact rl
   ·refine .inr (.inl ⟨p,xs,rfl,.of g,hw,fun q hq=>?_⟩)
    refine h _ _ _ (gg.trans (Gr.new (p:=q) s3.seen hq (.tup (cutV xs i j)))) ?_
    rw[Rp]
    refine⟨q,_,rfl,y0,?_⟩
    unfold cutD cutV
    rw[rl.length]
    exact((rl.drop _).take _).mono (Gr.new (p:=q) s3.seen hq _).g
  ·cases e
@[simp] theorem ap_slD{ρ:Ro}(lo hi:Option (Ro→Option D)):slD fa lo hi ρ=(fa ρ).bind fun d=>(optI lo ρ).bind fun i=>(optI hi ρ).bind fun j=>cutC i j d:=nr1 rfl
@[simp] theorem cutC_tup(i j:Option Int)(l:List D):cutC i j (.tup l)=some (.tup (cutD l i j)):=nr1 rfl
end
end
section
set_option maxRecDepth 100000
section
variable {prog:Program} {w:World} {A:Around} {E:Value→Shared→Prop} {s:Shared}
theorem Yq7:isSubtype (.type "set") (.type "set")=pure true:=by rw[isSubtype_type];kernel_rfl
theorem y1n{vals:List Int}:∀{acc:List Value},acc.length=vals.length→(∀(j:Nat) v,acc[j]?=some v→PInt vals j v)→IntsAre acc vals:=by
 induction vals with
 | nil=>
   intro acc h _
   rw[List.length_eq_zero_iff.mp h]
   exact .nil
 | cons k r ih=>
   intro acc h hp
   match acc,h with
   | v::acc,h=>
     obtain⟨k',t,e1,e2⟩:=hp 0 v rfl
     simp at e1
     subst e1
     subst e2
     refine .cons _ t (ih (by simpa using h) fun j v hj=>?_)
     obtain⟨k',t,e1,e2⟩:=hp (j+1) v (by simpa using hj)
     exact⟨k',t,by simpa using e1,e2⟩
theorem Yq8{a:Addr}{ns:List Int}(hh:A.handled=none)(hS:SetI prog w s.heap a ns){Q:List Value→Shared→Prop}
 (hQ:∀(h':Heap) (d':Drawn) (tk:Nat) (acc:List Value) (vals:List Int),s.heap.objs.size≤h'.objs.size→(∀b o,s.heap.get? b=some o→h'.get? b=some o)→IntsAre acc vals→vals.Perm ns→Q acc { s with heap:=h',drawn:=d',toks:=tk }) :
 wpAny (model prog w) A (collect (.ref a)) Q E s:=by
 obtain⟨o,es,ep,t,ho,hex,hd,_⟩:=id hS
 have hlt:a < s.heap.objs.size:=qk ho
 have hlen:=hS.len
 unfold collect
 refine wpAny_bind (wpAny_runValue (codeAny_builtin F.entry_proto_collect ?_))
 rw[Around.under_plainId F.plain_proto_collect _]
 show wpAny _ A.in1 (newList [] >>= fun l=>again (.builtin "list.__iadd__" ⟨[l,.ref a],[]⟩)) _ _ s
 refine wpAny_bind (wpAny_newObj_type ?_)
 refine wpAny_pure ⟨plainId_quiet F.plain_list_iadd _,codeAny_builtin F.entry_list_iadd ?_⟩
 rw[Around.under_plainId F.plain_list_iadd _]
 generalize hH:s.heap.push { cls:=.type "list",data:=.seq ([]:List Value).toArray }=H
 have hHs:H.objs.size=s.heap.objs.size+1:=by rw[←hH,Heap.size_push]
 have keepH:∀b o,s.heap.get? b=some o→H.get? b=some o:=fun b o e=>by rw[←hH];exact qd _ e
 have hL:H.get? s.heap.objs.size=some { cls:=.type "list",data:=.seq ([]:List Value).toArray }:=by rw[←hH];exact qo _ rfl
 have hoH:=keepH a o ho
 have hT:Shared.TypeIs { s with heap:=H } (.ref a) "set":=⟨o,hoH,hex.1⟩
 have hSI:s.heap.objs.size≠a:=fun z=>by rw[←z]at hlt;exact absurd hlt (Qi _)
 have h1:Builtin.List.listSameRef (.ref s.heap.objs.size) (.ref a)=false:=by simp[Builtin.List.listSameRef,hSI]
 show wpAny _ A.in1 (Builtin.List.listExtendWith (.ref s.heap.objs.size) (.ref a) (.ref s.heap.objs.size)) _ _ _
 unfold Builtin.List.listExtendWith
 refine wpAny_bind (wpAny_typeOf hT ?_)
 have h2:(Value.type "set"==Value.type "list")=false:=by decide
 have h3:(Value.type "set"==Value.type "tuple")=false:=by decide
 simp only[h1,h2,h3,Bool.or_false,Ql,if_false]
 refine wpAny_bind (Yxr (s:={ s with heap:=H }) (hS.at fun o e=>keepH a o e) fun h' d' I fp vals St keep hI hIf hfp hp hW hst hty=>?_)
 have ho':=keep a o hoH
 have hT':Shared.TypeIs { s with heap:=h',drawn:=d' } (.ref a) "set":=⟨o,ho',hex.1⟩
 refine wpAny_bind (wpAny_holding ?_)
 unfold Builtin.List.listLengthHint
 refine wpAny_bind (wpAny_specialOf hT' F.slot_set_len.lookup ?_)
 (generalize hid:("set.__len__":String)=id0;(fail_if_success (clear hid id0));wp_delta;rw[show splitId id0=some ("set","__len__") from by subst hid;decide +kernel];subst hid)
 refine wpAny_bind (wpAny_isInstance (b:=true) hT' Yq7 ?_)
 show wpAny _ A.in1 (typeOf (Value.ref a) >>= _) _ _ _
 refine wpAny_bind (wpAny_typeOf hT' ?_)
 refine wpAny_pure ?_
 rw[if_pos (by decide)]
 refine wpAny_bind (wpAny_rule ?_)
 have hSf:s.heap.objs.size∉fp:=fun hm=>by
  rcases(hfp _ hm).2 with z | z
  ·exact hSI z
  ·rw[show({ s with heap:=H }:Shared).heap.objs.size=H.objs.size from rfl,hHs]at z
   exact absurd z (Nat.not_le.mpr (qz _))
 have hS₁:h'.get? s.heap.objs.size=some { cls:=.type "list",data:=.seq ([]:List Value).toArray }:=keep _ _ hL
 refine wpAny_bind ?_
 show wpAny _ A.in1 (updateSeq s.heap.objs.size (·.push .none) >>= fun _=>updateSeq s.heap.objs.size (·.pop)) _ _ _
 refine wpAny_bind (wpAny_updateSeq hS₁ rfl ?_)
 have hS₂:=Heap.get?_update_self (Obj.mapSeq (·.push Value.none)) hS₁ rfl
 refine wpAny_updateSeq hS₂ rfl ?_
 have hS₃:=Heap.get?_update_self (Obj.mapSeq (·.pop)) hS₂ rfl
 have oth:∀b o,b≠s.heap.objs.size→h'.get? b=some o→
  ((h'.update s.heap.objs.size (Obj.mapSeq (·.push Value.none))).update s.heap.objs.size (Obj.mapSeq (·.pop))).get? b=some o:=
  fun b o hb e=>(Heap.get?_update_other _ _ (Ne.symm hb)).trans ((Heap.get?_update_other _ _ (Ne.symm hb)).trans e)
 have W:=(hW A.in1 hh).toS
 refine wpAny_pure ⟨plainId_quiet F.plain_extend_loop _,codeAny_extend_loopS W (fits_of_scanBound hlen) _ hSf _ ns.length 0 _ _ _ rfl (Nat.zero_le _)
  (W.frame 0 ({ s with heap:=h',drawn:=d' }:Shared) _ s.toks hst (qt _) fun b hb o e=>oth b o (fun h=>hSf (h ▸ hb)) e) hS₃ (ItemsOf.nil _) fun s' acc' c' hm hS' hacc=>?_⟩
 show wpAny _ A (load s.heap.objs.size >>= _) _ _ s'
 refine wpAny_bind (wpAny_load hS' ?_)
 have eg:s'.gens=s.gens:=hm.gens
 have ed:s'.drawn=d':=hm.drawn
 have eo:s'.os=s.os:=hm.os
 have es':s'={ s with heap:=s'.heap,drawn:=d',toks:=s'.toks }:=by
  obtain⟨a1,a2,a3,a4,a5⟩:=s'
  simp only at eg ed eo
  subst eg;subst ed;subst eo
  rfl
 rw[es']
 refine wpAny_pure (hQ s'.heap d' s'.toks acc'.toList vals (Nat.le_of_lt (qk hS')) (fun b ob e=>?_) (y1n (by rw[qi,hacc.1,hp.length_eq]) fun j v hj=>hacc.2 j v (by rw[←Array.getElem?_toList];exact hj)) hp)
 have hb:b < s.heap.objs.size:=qk e
 refine hm.heap b ob (fun hm'=>?_) (oth b ob (ql hb) (keep b ob (keepH b ob e)))
 rcases qr hm' with z | z
 ·rw[z]at hb;exact absurd hb (Qi _)
 ·rw[List.mem_singleton.mp z]at hb
  have:H.objs.size≤I:=hI
  rw[hHs]at this
  exact absurd (Qh hb (Qf (Nat.le_succ _) this)) (Qi _)
theorem Ytv{a:Addr}{ns:List Int}(hh:A.handled=none)(hS:SetI prog w s.heap a ns)(h64:ns.length < 64){Q:Value→Shared→Prop}
 (hQ:∀(h':Heap) (d':Drawn) (tk e:Nat) (p:Addr) (out:Array Value) (ns':List Int),(∀b o,s.heap.get? b=some o→h'.get? b=some o)→s.heap.objs.size≤p→h'.get? p=some (seqObj "list" out e)→IntsAre out.toList ns'→ns'.Perm ns→ns'.Pairwise (·≤·)→
  Q (.ref p) { s with heap:=h',drawn:=d',toks:=tk }):wpAny (model prog w) A (call (.builtin "sorted") [.ref a]) Q E s:=by
 refine Calls.call_function_entry kind_sorted plain_sorted entry_sorted (args_sorted1 _) ?_
 unfold Builtin.«sorted»
 refine wpAny_bind (m:=checkCount "sorted" 1 1 _) (wpAny_pure ?_)
 refine wpAny_bind (Yq8 (A:=A.in1) hh hS fun h' d' tk acc vals hle keep hI hp=>?_)
 have hl:acc.length=vals.length:=IntsAre.length hI
 have h64':acc.length < 64:=by rw[hl,hp.length_eq];exact h64
 refine wpAny_bind (wpAny_newList ?_ (by rw[sizeLine_eq];lia))
 have hoL:(h'.push (seqObj "list" acc.toArray 0)).get? h'.objs.size=some (seqObj "list" acc.toArray 0):=qo _ rfl
 show wpAny _ _ _ _ _ { s with heap:=h'.push (seqObj "list" acc.toArray 0),drawn:=d',toks:=tk }
 refine wpAny_bind (wpAny_holding (wpAny_call_entry slot_list_sort ⟨_,hoL,rfl⟩ entry_list_sort (list_sort_tree (s:={ s with heap:=h'.push (seqObj "list" acc.toArray 0),drawn:=d',toks:=tk }) hoL hI h64' fun out ns' a1 a2 a3=>⟨_,rfl,?_⟩) (args_list_sort _)))
 obtain⟨e,he⟩:=sortedHeap_at (n:=0) (out:=out) hoL
 refine wpAny_pure ⟨_,rfl,hQ _ d' tk e h'.objs.size out ns' (fun b o eb=>?_) hle he a1 (a2.trans hp) a3⟩
 have hb:=qk (keep b o eb)
 rw[sortedHeap_old (ql hb) (by rw[size_push'];exact qv hb)]
 exact qd _ (keep b o eb)
end
noncomputable def setO(P:Program)(w:World)(p:Addr)(ms:List Int):HO:=.ext fun h=>SetI P w h p ms
theorem Ywb{P:Program}{w:World}{H:Hp}{h:Heap}{p:Addr}{ms:List Int}(x:SetI P w h p ms):ObjOk P w H h p (setO P w p ms):=by
 refine⟨x,?_,fun h1 h2 e k=>e.at k⟩
 obtain⟨o,_,_,_,ho,_⟩:=x
 exact⟨o,ho⟩
section
variable {X:Cx} {pins:List (Addr × Obj)} {σ:L2.St} {H:Hp} {s:Shared}
theorem _root_.L2.Inv.dr(I:Inv X pins σ H s)(d':Drawn):Inv X pins σ H { s with drawn:=d' }:=⟨I.ok,I.os,I.bare,I.base,I.loc,I.cell,I.free,I.freeC,I.pin,I.hok,I.len⟩
theorem Ypj{ns:List Int}{us:List Value}(r:Vals (ns.map V.int) us):IntsAre us ns:=Ygl r
noncomputable def y6w(K:W.Frag)(P:Program)(w:World):List V→Hp→VK→Prop:=fun xs H Q=>∃a ns,xs=[.ref a]∧(SqL K H a (ns.map V.int)∨SqT K H a (ns.map V.int))∧ns.length < 4000∧∀p ms,H p=none→ms.Perm (ddup [] ns)→Q (.ref p) (upd H p (setO P w p ms))
theorem Ywc(hc:X.calm=true):Ydx X (.type "set") (y6w X.K X.prog X.w):=by
 intro pins s σ H xs us Q I r h
 obtain⟨a,ns,rfl,hq,hl,q⟩:=h
 obtain⟨u,rfl,rx⟩:=Yhu r
 cases rx
 have hh:X.A.handled=none:=I.ok.hd hc
 have hsb:scanBound=4096:=rfl
 rcases hq with hq | hq
 ·obtain⟨its,rv,pl,hz⟩:=I.list hq
  have hlen:=rv.length
  rw[qe]at hlen
  refine Ym7 hh pl.isList (by simpa using Ypj rv) (by rw[qj,hsb];lia) fun h' tk ms hS hp hk=>?_
  exact⟨.ref s.heap.objs.size,_,I.laid (t':=tk) (fun b o e=>hk b o (qk e) e) (qt _) (Ywb hS),rfl,q _ ms (I.hok.fresh (qt _)) hp⟩
 ·obtain⟨its,rv,pl,hz⟩:=I.tuple hq
  have hlen:=rv.length
  rw[qe]at hlen
  refine Yln hh pl (by simpa using Ypj rv) (by rw[qj,hsb];lia) fun h' tk ms hS hp hk=>?_
  exact⟨.ref s.heap.objs.size,_,I.laid (t':=tk) (fun b o e=>hk b o (qk e) e) (qt _) (Ywb hS),rfl,q _ ms (I.hok.fresh (qt _)) hp⟩
noncomputable def y40(P:Program)(w:World):List V→Hp→VK→Prop:=fun xs H Q=>∃a ms,xs=[.ref a]∧H a=some (setO P w a ms)∧ms.length < 64∧∀p,H p=none→Q (.ref p) (upd H p (.lst ((Ydc ms).map V.int)))
theorem Ytw(hc:X.calm=true):Ydx X (.builtin "sorted") (y40 X.prog X.w):=by
 intro pins s σ H xs us Q I r h
 obtain⟨a,ms,rfl,hq,hl,q⟩:=h
 obtain⟨u,rfl,rx⟩:=Yhu r
 cases rx
 have hh:X.A.handled=none:=I.ok.hd hc
 have hS:SetI X.prog X.w s.heap a ms:=(show ObjOk X.prog X.w H s.heap a (setO X.prog X.w a ms) from I.hok a _ hq).1
 refine Ytv hh hS hl fun h' d' tk e p out ns' keep hp he hI hpm hs=>?_
 have en:ns'=Ydc ms:=W.ksm_same (hpm.trans (Ybb ms).symm) hs (Ybg ms)
 subst en
 have hn:(Ydc ms).length=ms.length:=(Ybb ms).length_eq
 refine⟨.ref p,_,Inv.laid (t':=tk) (I.dr d') keep hp (show ObjOk X.prog X.w _ _ _ (.lst ((Ydc ms).map V.int)) from⟨by rw[qe,hn,sizeLine_eq];lia,out.toList,e,Yf0 hI,by rw[Array.toArray_toList];exact he⟩),rfl,q _ (I.hok.fresh hp)⟩
noncomputable def Ytx(l:List D):Option (List D):=match Ycu l with
 | some ns=>if ns.length < 4000∧(ddup [] ns).length < 64 then some ((Ydc (ddup [] ns)).map D.int)else none
 | none=>none
theorem Ynh{a b:List Int}(h:a.Perm b):Ydc a=Ydc b:=W.ksm_same (((Ybb a).trans h).trans (Ybb b).symm) (Ybg a) (Ybg b)
end
section
variable {X:Cx} {e:Expr} {f:Ro→Option D} {p p2 pos pos2:Pos}
noncomputable def Yel(f:Ro→Option D):Ro→Option (List D):=fun ρ=>(b1 f Yr ρ).bind Ytx
theorem nr0{α:Sort _}{a b:α}(h:a=b):a=b:=h
@[simp] theorem ap_sortsetF{ρ:Ro}:Yel f ρ=((f ρ).bind Yr).bind Ytx:=nr0 rfl
theorem Yty(hc:X.calm=true)(hg:Gl X "sorted")(hm:X.mg "sorted"=none)(hg2:Gl X "set")(hm2:X.mg "set"=none)(ha:MC X e f)(hs:starEach [e] X.env=[(false,eval e X.env)]:=by rfl)
 (he:starEach [.Call (.Name "set" p2) [e] [] pos2] X.env=[(false,eval (.Call (.Name "set" p2) [e] [] pos2) X.env)]:=by rfl)
 (hpl:(backTo pos2 (starEach [] X.env)).any (·.1)=false:=by rfl) (hpl2:(backTo pos (starEach [] X.env)).any (·.1)=false:=by rfl) :
 MF X (.Call (.Name "sorted" p) [.Call (.Name "set" p2) [e] [] pos2] [] pos) (Yel f):=
 PE.imp (Yjt (Ytw hc) hg hm boot_sorted (Yg7 (Yhv (Ywc hc) hg2 hm2 boot_set (Ynb ha Yqy hs) (by decide) (by decide) hs hpl) Yme he) (by decide) (by decide) he hpl2) fun σ H Q hx_=>by
  obtain⟨ρ,l,H0,G0,G,e,s,h⟩:=hx_
  unfold Yel at e
  obtain⟨l0,h1,e⟩:=qa e
  obtain⟨d,h2,h3⟩:=Yer h1
  refine tCAof.at (show Yh f aNil ρ=some [d] by simp[Yh,aNil,h2]) s fun vs H1 G1 g1 r1 s1=>?_
  obtain⟨v,rfl,rv⟩:=Yes r1
  obtain⟨q,xs,rfl,hq,rl⟩:=Yvj (K:=X.K) h3 rv
  unfold Ytx at e
  split at e
  ·rename_i ns hns
   split at e
   ·rename_i hl
    cases e
    cases Ye4 hns
    cases Yh0 rl
    refine⟨q,ns,rfl,hq,hl.1,fun m ms hm' hp=>?_⟩
    have g2:=Gr.hid s1.seen hm' (setO X.prog X.w m ms)
    have s2:=s1.grow g2
    refine⟨m,ms,rfl,y0,by rw[hp.length_eq];exact hl.2,fun r hr=>?_⟩
    rw[Ynh hp]
    refine h r _ _ G1 ((g1.trans g2).trans (.hid s2.seen hr _)) ((g1.trans g2).h.free hr) (s2.seen.free hr) y0 (.ints _)
   ·cases e
  ·cases e
end
end
section
noncomputable def y6x:List Nat:=[8,16,32,64,128]
end
section
end
section
set_option maxRecDepth 100000
end
section
set_option maxRecDepth 100000
section
variable {prog:Program} {w:World} {A:Around} {E:Value→Shared→Prop} {s:Shared}
structure SetQ(w:World)(h:Heap)(a:Addr)(us:List (Int × Addr)):Prop where
 ex:∃o es ep t,h.get? a=some o∧o.ExactSet∧o.data=.set es ep t∧es.toList=us.map (fun u=>(u.1,Value.ref u.2))∧t.fits es.size=true∧t.mask=7∧t.dummies=#[]∧t.place.toList=us.map (fun u=>SetTable.bits u.1 % 8)∧Tab (byT w) t
end
end
section
set_option maxRecDepth 100000
end
section
end
section
set_option maxRecDepth 100000
noncomputable def advM(mask:Nat)(p:SetTable.Probe):SetTable.Probe:=SetTable.advance { mask:=mask,place:=#[],dummies:=#[],finger:=0,led:=false,moves:=0,plain:=false } p
noncomputable def itP(mask:Nat):Nat→SetTable.Probe→SetTable.Probe
 | 0,p=>p
 | k+1,p=>itP mask k (advM mask p)
noncomputable def stP(mask i perturb:Nat):SetTable.Probe:={ j:=i,more:=SetTable.runEnd mask i - i,i,perturb,dummy:=none }
def Way(mask:Nat)(occ:Nat→Prop)(p:SetTable.Probe)(j:Nat):Prop:=∃k,(itP mask k p).j=j∧∀m,m < k→occ (itP mask m p).j
noncomputable abbrev hSt(mask:Nat)(h:Int):SetTable.Probe:=stP mask (SetTable.bits h % (mask+1)) (SetTable.bits h)
section
variable {t:SetTable} {hA:Nat→Int} {h:Int}
structure Clean(t:SetTable)(n:Nat):Prop where
 hs:t.mask+1∈y6x
 dm:t.dummies=#[]
 rise:Rise t.place
 le:∀j∈t.place.toList,j≤t.mask
 sz:t.place.size=n
 room:n≤t.mask
end
end
section
set_option maxRecDepth 100000
noncomputable def bI(b:Bool):Int:=if b then 1 else 0
noncomputable def bH(bs:List Bool):Int:=y3l (bs.map bI)
def TupB(h:Heap)(u:Addr)(bs:List Bool):Prop:=bs.length≤4∧∃o n,h.get? u=some o∧o.cls=.type "tuple"∧o.data=.seq (bs.map Value.bool).toArray n
structure SetB(w:World)(h:Heap)(S:Addr)(us:List (Addr × List Bool)):Prop where
 ex:∃o es ep t,h.get? S=some o∧o.ExactSet∧o.data=.set es ep t∧es.toList.Perm (us.map fun u=>(bH u.2,Value.ref u.1))∧t.fits es.size=true∧Clean t es.size∧Tab (byT w) t∧es.size * 5 < t.mask * 3∧∀q∈es.toList.zip t.place.toList,Way t.mask (·∈t.place.toList) (hSt t.mask q.1.1) q.2
 keys:(us.map (·.2)).Nodup
 tups:∀u∈us,TupB h u.1 u.2
 few:us.length≤24
end
section
set_option maxRecDepth 100000
section
variable {n:Nat} {key:Nat→Nat} {cmp:Nat→Nat→(Bool→Shared→Prop)→Shared→Prop} {s:Shared}
variable (hinj:∀i j,i < n→j < n→key i=key j→i=j) (hc:∀i j (C:Bool→Shared→Prop),i < n→j < n→C (decide (key i < key j)) s→cmp i j C s)
include hinj hc
omit hinj hc in
omit hinj hc in
omit hinj hc in
end
end
section
section
variable {X:Cx} {e:Expr} {f:Ro→Option D} {p p2 pos pos2:Pos}
noncomputable def Ypk:D→D→Option D
 | .tup a,.tup b=>if a.length+b.length≤cap6 then some (.tup (a++b))else none
 | _,_=>none
noncomputable def y6y(K:W.Frag):R2:=fun x y H Q=>∃a b xs ys,x=.ref a∧y=.ref b∧SqT K H a xs∧SqT K H b ys∧xs.length+ys.length≤sizeLine∧
 (xs=[]→Q (.ref b) H)∧(xs≠[]→ys=[]→Q (.ref a) H)∧(xs≠[]→ys≠[]→∀p,H p=none→Q (.ref p) (upd H p (.tup (xs++ys))))
theorem y1o:OpR X (binaryOp .Add) (y6y X.K):=by
 intro pins s σ H x y v u Q I rx ry h
 obtain⟨a,b,xs,ys,rfl,rfl,ha,hb,hz,q0,q1,q2⟩:=h
 by_cases hx:xs=[]
 ·cases rx
  cases ry
  obtain⟨its,r1,p1,_⟩:=I.tuple ha
  obtain⟨its2,r2,p2,_⟩:=I.tuple hb
  have he:its=[]:=r1.nil_iff.mpr hx
  obtain⟨⟨cls,dd,data,sl⟩,ho,hc,n,hd⟩:=p1
  obtain⟨⟨cls2,dd2,data2,sl2⟩,ho2,hc2,n2,hd2⟩:=p2
  simp only at hc hd hc2 hd2
  subst hc hd hc2 hd2
  exact concat_meets ⟨_,ho,rfl⟩ ⟨_,ho2,rfl⟩ noFill_tuple_add seq_tuple_add PySem.F.slot_tuple_add PySem.F.entry_tuple_add (PySem.F.args_tuple_add_2 _ _)
   (tuple_addW0 a b its.toArray its2.toArray n n2 dd dd2 sl sl2 (by simp[he])) ⟨ho,ho2,⟨.ref b,H,I,rfl,q0 hx⟩⟩
 ·exact y0d pins s σ H _ _ _ _ Q I rx ry ⟨a,b,xs,ys,rfl,rfl,ha,hb,hx,hz,q1 hx,q2 hx⟩
theorem y1p{a b:Expr}{fa fb:Ro→Option D}(ha:MC X a fa)(hb:MC X b fb):ME X (.BinOp a .Add b pos) (b2 fa fb Ypk):=PE.imp (Yz3 y1o ha hb) fun σ H Q hx_=>by
 obtain⟨ρ,l,H0,G0,G,e,s,h⟩:=hx_
 obtain⟨dx,dy,h1,h2,h3⟩:=Yj5 e
 refine tCof.at h1 s fun v H1 G1 g1 r1 s1=>tCof.at h2 s1 fun u H2 G2 g2 r2 s2=>?_
 unfold Ypk at h3
 split at h3
 ·rename_i l1 l2
  split at h3
  ·rename_i hz
   cases h3
   have r1':=r1.grow g2
   rw[Ct]at r1'
   rw[Ct]at r2
   obtain⟨p,xs,rfl,gp,rl⟩:=r1'
   obtain⟨q,zs,rfl,gq,rm⟩:=r2
   refine⟨p,q,xs,zs,rfl,rfl,.of gp.1,.of gq.1,by rw[rl.length,rm.length];exact Yir hz,fun hx=>?_,fun _ hy=>?_,fun _ _ m hm=>h _ _ _ ((g1.trans g2).trans (.new s2.seen hm (.tup (xs++zs)))) ?_⟩
   ·subst hx
    have:l1=[]:=List.eq_nil_of_length_eq_zero (by rw[←rl.length];rfl)
    subst this
    refine h _ _ G2 (g1.trans g2) ?_
    rw[List.nil_append,Rp]
    exact⟨q,zs,rfl,gq.2,rm⟩
   ·subst hy
    have:l2=[]:=List.eq_nil_of_length_eq_zero (by rw[←rm.length];rfl)
    subst this
    refine h _ _ G2 (g1.trans g2) ?_
    rw[List.append_nil,Rp]
    exact⟨p,xs,rfl,gp.2,rl⟩
   ·rw[Rp]
    exact⟨m,_,rfl,y0,(rl.append rm).mono (Gr.new s2.seen hm _).g⟩
  ·cases h3
 ·cases h3
@[simp] theorem tcatD_tup(a b:List D):Ypk (.tup a) (.tup b)=if a.length+b.length≤cap6 then some (.tup (a++b))else none:=nr0 rfl
end
end
section
set_option maxRecDepth 100000
end
section
structure ZE(X:Cx)(e:Expr)(f:Ro→Option D):Prop where
 un:ME X e f
structure ZC(X:Cx)(e:Expr)(f:Ro→Option D):Prop where
 un:MC X e f
structure ZCA(X:Cx)(es:List Expr)(f:Ro→Option (List D)):Prop where
 un:MCA X es f
structure ZF(X:Cx)(e:Expr)(f:Ro→Option (List D)):Prop where
 un:MF X e f
structure ZT(X:Cx)(e:Expr)(f:Ro→Option Bool):Prop where
 un:MT X e f
structure ZW(X:Cx)(e:Expr)(f:Ro→Option Bool):Prop where
 un:MW X e f
structure ZA(X:Cx)(es:List Expr)(f:Ro→Option (List D)):Prop where
 un:MA X es f
structure ZI(X:Cx)(tg iter:Expr)(f:Ro→Option (List D)):Prop where
 un:MI X tg iter f
structure ZS(X:Cx)(st:Stmt)(f:Ro→Option Out):Prop where
 un:MS X st f
structure ZB(X:Cx)(sts:List Stmt)(f:Ro→Option Out):Prop where
 un:MB X sts f
structure ZG(X:Cx)(tg:Expr)(gt:D→Ro→Option Ro):Prop where
 un:MG X tg gt
structure ZIfs(X:Cx)(K:W.Frag)(ifs:List Expr)(f:Ro→Option Bool):Prop where
 un:PIfs X ifs (tTof K f)
structure ZO(X:Cx)(e:Option Expr)(f:Option (Ro→Option D)):Prop where
 un:PO X e (tO X.K f)
structure ZP(X:Cx)(pos:Pos)(keys:List (Option Expr))(values:List Expr)(ks:List Str)(fs:List (Ro→Option D)):Prop where
 un:MP X pos keys values ks fs
section
variable {K:W.Frag}
variable {X:Cx}
variable {H0 G0 H G:Hp} {σ:L2.St} {ρ:Ro}
theorem Yd{e:Expr}{f:Ro→Option D}(h:ZE X e f):ZC X e f:=⟨ME.mc h.un⟩
end
section
variable {K:W.Frag}
variable {X:Cx} {a b c e:Expr} {es:List Expr} {fa fb fc f:Ro→Option D} {ga:Ro→Option (List D)} {pos:Pos}
theorem Yg(i:Nat){x:Str}(hN:X.N[i]?=some x:=by rfl)(hv:Vis X.env.scope x:=by first | exact Or.inl rfl | exact Or.inr (Or.inl rfl) | exact Or.inr (Or.inr rfl))(hd:(x==("__debug__":Str))=false:=by decide)(hcd:(x==("__classdict__":Str))=false:=by decide):ZE X (.Name x pos) (getV i):=⟨y3m i hN hv hd hcd⟩
end
section
variable {K:W.Frag}
variable {X:Cx} {a b c e:Expr} {es:List Expr} {fa fb fc f:Ro→Option D} {ga:Ro→Option (List D)} {pos:Pos}
theorem Ye(i:Nat){x:Str}(hN:X.N[i]?=some x:=by rfl)(hv:Vis X.env.scope x:=by first | exact Or.inl rfl | exact Or.inr (Or.inl rfl) | exact Or.inr (Or.inr rfl))(hd:(x==("__debug__":Str))=false:=by decide)(hcd:(x==("__classdict__":Str))=false:=by decide):ZC X (.Name x pos) (getC i):=⟨y3n i hN hv hd hcd⟩
end
section
variable {K:W.Frag}
variable {X:Cx} {a b c e:Expr} {es:List Expr} {fa fb fc f:Ro→Option D} {ga:Ro→Option (List D)} {pos:Pos}
theorem Yi{i:Int}{j}:ZE X (.Constant (.int i) j pos) (kD (.int i)):=⟨Yzb ⟩
end
section
variable {K:W.Frag}
variable {X:Cx} {a b c e:Expr} {es:List Expr} {fa fb fc f:Ro→Option D} {ga:Ro→Option (List D)} {pos:Pos}
theorem Yde{k:Bool}{j}:ZE X (.Constant (.bool k) j pos) (kD (.bl k)):=⟨y6f ⟩
end
section
variable {K:W.Frag}
variable {X:Cx} {a b c e:Expr} {es:List Expr} {fa fb fc f:Ro→Option D} {ga:Ro→Option (List D)} {pos:Pos}
theorem Yb3{j}:ZE X (.Constant .none j pos) (kD .non):=⟨y3o ⟩
end
section
variable {K:W.Frag}
variable {X:Cx} {a b c e:Expr} {es:List Expr} {fa fb fc f:Ro→Option D} {ga:Ro→Option (List D)} {pos:Pos}
theorem Yw{x:Str}{j}(hx:PyData.strOk x=true:=by decide +kernel):ZE X (.Constant (.str x) j pos) (kD (.str x)):=⟨y3p hx⟩
end
section
variable {K:W.Frag}
variable {X:Cx} {a b c e:Expr} {es:List Expr} {fa fb fc f:Ro→Option D} {ga:Ro→Option (List D)} {pos:Pos}
theorem Ykk(ha:ZC X a fa)(hb:ZC X b fb):ZE X (.BinOp a .Sub b pos) (b2 fa fb subI):=⟨y3q ha.un hb.un⟩
end
section
variable {K:W.Frag}
variable {X:Cx} {a b c e:Expr} {es:List Expr} {fa fb fc f:Ro→Option D} {ga:Ro→Option (List D)} {pos:Pos}
theorem y1q(ha:ZC X a fa)(hb:ZC X b fb):ZE X (.BinOp a .Mult b pos) (b2 fa fb mulI):=⟨y3r ha.un hb.un⟩
end
section
variable {K:W.Frag}
variable {X:Cx} {a b c e:Expr} {es:List Expr} {fa fb fc f:Ro→Option D} {ga:Ro→Option (List D)} {pos:Pos}
theorem Yhf(ha:ZC X a fa)(hb:ZC X b fb):ZE X (.BinOp a .FloorDiv b pos) (b2 fa fb divI):=⟨y3s ha.un hb.un⟩
end
section
variable {K:W.Frag}
variable {X:Cx} {a b c e:Expr} {es:List Expr} {fa fb fc f:Ro→Option D} {ga:Ro→Option (List D)} {pos:Pos}
theorem Ybj(ha:ZC X a fa)(hb:ZC X b fb):ZE X (.BinOp a .Mod b pos) (b2 fa fb modI):=⟨y3t ha.un hb.un⟩
end
section
variable {K:W.Frag}
variable {X:Cx} {a b c e:Expr} {es:List Expr} {fa fb fc f:Ro→Option D} {ga:Ro→Option (List D)} {pos:Pos}
theorem Ysr(ha:ZC X a fa)(hb:ZC X b fb):ZT X (.Compare a [.Lt] [b] pos) (b2 fa fb ltI):=⟨y6h ha.un hb.un⟩
end
section
variable {K:W.Frag}
variable {X:Cx} {a b c e:Expr} {es:List Expr} {fa fb fc f:Ro→Option D} {ga:Ro→Option (List D)} {pos:Pos}
theorem y41(ha:ZC X a fa)(hb:ZC X b fb):ZT X (.Compare a [.Gt] [b] pos) (b2 fa fb gtI):=⟨y6i ha.un hb.un⟩
end
section
variable {K:W.Frag}
variable {X:Cx} {a b c e:Expr} {es:List Expr} {fa fb fc f:Ro→Option D} {ga:Ro→Option (List D)} {pos:Pos}
theorem Yem(hu:X.A.units+64 < cLine)(ha:ZC X a fa)(hb:ZC X b fb):ZE X (.Compare a [.Eq] [b] pos) (mB (b2 fa fb (eqM false))):=⟨y6j hu ha.un hb.un⟩
end
section
variable {K:W.Frag}
variable {X:Cx} {a b c e:Expr} {es:List Expr} {fa fb fc f:Ro→Option D} {ga:Ro→Option (List D)} {pos:Pos}
theorem y42(hu:X.A.units+64 < cLine)(ha:ZC X a fa)(hb:ZC X b fb):ZE X (.Compare a [.NotEq] [b] pos) (mB (b2 fa fb (eqM true))):=⟨y6k hu ha.un hb.un⟩
end
section
variable {K:W.Frag}
variable {X:Cx} {a b c e:Expr} {es:List Expr} {fa fb fc f:Ro→Option D} {ga:Ro→Option (List D)} {pos:Pos}
theorem Ybc(hu:X.A.units+64 < cLine)(ha:ZC X a fa)(hb:ZC X b fb):ZT X (.Compare a [.Eq] [b] pos) (b2 fa fb (eqM false)):=⟨y6l hu ha.un hb.un⟩
end
section
variable {K:W.Frag}
variable {X:Cx} {a b c e:Expr} {es:List Expr} {fa fb fc f:Ro→Option D} {ga:Ro→Option (List D)} {pos:Pos}
theorem Ymm(hu:X.A.units+64 < cLine)(ha:ZC X a fa)(hb:ZC X b fb):ZT X (.Compare a [.NotEq] [b] pos) (b2 fa fb (eqM true)):=⟨y6m hu ha.un hb.un⟩
end
section
variable {K:W.Frag}
variable {X:Cx} {a b c e:Expr} {es:List Expr} {fa fb fc f:Ro→Option D} {ga:Ro→Option (List D)} {pos:Pos}
theorem Ypl(hu:X.A.units+64 < cLine)(ha:ZC X a fa)(hb:ZC X b fb)(hm:behindInMarks .In b=false:=by with_unfolding_all rfl):ZE X (.Compare a [.In] [b] pos) (mB (b2 fa fb (inM false))):=⟨y6n hu ha.un hb.un hm⟩
end
section
variable {K:W.Frag}
variable {X:Cx} {a b c e:Expr} {es:List Expr} {fa fb fc f:Ro→Option D} {ga:Ro→Option (List D)} {pos:Pos}
theorem Yss(hu:X.A.units+64 < cLine)(ha:ZC X a fa)(hb:ZC X b fb)(hm:behindInMarks .In b=false:=by with_unfolding_all rfl):ZT X (.Compare a [.In] [b] pos) (b2 fa fb (inM false)):=⟨y6o hu ha.un hb.un hm⟩
end
section
variable {K:W.Frag}
variable {X:Cx} {a b c e:Expr} {es:List Expr} {fa fb fc f:Ro→Option D} {ga:Ro→Option (List D)} {pos:Pos}
theorem Ywd(hu:X.A.units+64 < cLine)(ha:ZC X a fa)(hb:ZC X b fb)(hm:behindInMarks .NotIn b=false:=by with_unfolding_all rfl):ZT X (.Compare a [.NotIn] [b] pos) (b2 fa fb (inM true)):=⟨y3u hu ha.un hb.un hm⟩
end
section
variable {K:W.Frag}
variable {X:Cx} {a b c e:Expr} {es:List Expr} {fa fb f:Ro→Option D} {fc fd:Ro→Option Bool} {ga:Ro→Option (List D)} {pos:Pos} {rest:List Expr}
theorem Ybt(ha:ZC X a fa)(he:∀whole,isTrue a X.env whole=(do let v ←whole;standAt a.pos;holding [v] (truthy v)):=by intro _;rfl):ZT X a (b1 fa truD):=⟨y3v ha.un he⟩
end
section
variable {K:W.Frag}
variable {X:Cx} {a b c e:Expr} {es:List Expr} {fa fb f:Ro→Option D} {fc fd:Ro→Option Bool} {ga:Ro→Option (List D)} {pos:Pos} {rest:List Expr}
theorem Yc8(ha:ZT X a fc):ZW X (.BoolOp .And [a] pos) fc:=⟨y0q ha.un⟩
end
section
variable {K:W.Frag}
variable {X:Cx} {a b c e:Expr} {es:List Expr} {fa fb f:Ro→Option D} {fc fd:Ro→Option Bool} {ga:Ro→Option (List D)} {pos:Pos} {rest:List Expr}
theorem Ykl(ha:ZT X a fc):ZW X (.BoolOp .Or [a] pos) fc:=⟨y3w ha.un⟩
end
section
variable {K:W.Frag}
variable {X:Cx} {a b c e:Expr} {es:List Expr} {fa fb f:Ro→Option D} {fc fd:Ro→Option Bool} {ga:Ro→Option (List D)} {pos:Pos} {rest:List Expr}
theorem Ydz(ha:ZT X a fc)(hb:ZW X (.BoolOp .And (b::rest) pos) fd):ZW X (.BoolOp .And (a::b::rest) pos) (andT fc fd):=⟨y3y ha.un hb.un⟩
end
section
variable {K:W.Frag}
variable {X:Cx} {a b c e:Expr} {es:List Expr} {fa fb f:Ro→Option D} {fc fd:Ro→Option Bool} {ga:Ro→Option (List D)} {pos:Pos} {rest:List Expr}
theorem Yjb(ha:ZT X a fc)(hb:ZW X (.BoolOp .Or (b::rest) pos) fd):ZW X (.BoolOp .Or (a::b::rest) pos) (orT fc fd):=⟨y6p ha.un hb.un⟩
end
section
variable {K:W.Frag}
variable {X:Cx} {a b c e:Expr} {es:List Expr} {fa fb f:Ro→Option D} {fc fd:Ro→Option Bool} {ga:Ro→Option (List D)} {pos:Pos} {rest:List Expr}
theorem Ycw(ha:ZT X a fc):ZT X (.UnaryOp .Not a pos) (notT fc):=⟨y3z ha.un⟩
end
section
variable {K:W.Frag}
variable {X:Cx} {a b c e:Expr} {es:List Expr} {fa fb f:Ro→Option D} {fc fd:Ro→Option Bool} {ga:Ro→Option (List D)} {pos:Pos} {rest:List Expr}
theorem Yfg(ha:ZE X a fa):ZE X (.BoolOp .And [a] pos) fa:=⟨y0s ha.un⟩
end
section
variable {K:W.Frag}
variable {X:Cx} {a b c e:Expr} {es:List Expr} {fa fb f:Ro→Option D} {fc fd:Ro→Option Bool} {ga:Ro→Option (List D)} {pos:Pos} {rest:List Expr}
theorem Ywe(ha:ZE X a fa):ZE X (.BoolOp .Or [a] pos) fa:=⟨y30 ha.un⟩
end
section
variable {K:W.Frag}
variable {X:Cx} {a b c e:Expr} {es:List Expr} {fa fb f:Ro→Option D} {fc fd:Ro→Option Bool} {ga:Ro→Option (List D)} {pos:Pos} {rest:List Expr}
theorem Yhg(ha:ZE X a fa)(hb:ZE X (.BoolOp .And (b::rest) pos) fb):ZE X (.BoolOp .And (a::b::rest) pos) (andV fa fb):=⟨y31 ha.un hb.un⟩
end
section
variable {K:W.Frag}
variable {X:Cx} {a b c e:Expr} {es:List Expr} {fa fb f:Ro→Option D} {fc fd:Ro→Option Bool} {ga:Ro→Option (List D)} {pos:Pos} {rest:List Expr}
theorem Ywf(ha:ZE X a fa)(hb:ZE X (.BoolOp .Or (b::rest) pos) fb):ZE X (.BoolOp .Or (a::b::rest) pos) (orV fa fb):=⟨y6q ha.un hb.un⟩
end
section
variable {K:W.Frag}
variable {X:Cx} {a b c e:Expr} {es:List Expr} {fa fb f:Ro→Option D} {fc fd:Ro→Option Bool} {ga:Ro→Option (List D)} {pos:Pos} {rest:List Expr}
theorem y1r(ha:ZC X a fa)(hb:ZC X b fb):ZE X (.Compare a [.Is] [b] pos) (mB (b2 fa fb (isN false))):=⟨y32 ha.un hb.un⟩
end
section
variable {K:W.Frag}
variable {X:Cx} {a b c e:Expr} {es:List Expr} {fa fb f:Ro→Option D} {fc fd:Ro→Option Bool} {ga:Ro→Option (List D)} {pos:Pos} {rest:List Expr}
theorem Yst(ha:ZC X a fa)(hb:ZC X b fb):ZE X (.Compare a [.IsNot] [b] pos) (mB (b2 fa fb (isN true))):=⟨y0t ha.un hb.un⟩
end
section
variable {K:W.Frag}
variable {X:Cx} {a b c e:Expr} {es:List Expr} {fa fb f:Ro→Option D} {fc fd:Ro→Option Bool} {ga:Ro→Option (List D)} {pos:Pos} {rest:List Expr}
theorem Yq9(ha:ZC X a fa)(hb:ZC X b fb):ZT X (.Compare a [.Is] [b] pos) (b2 fa fb (isN false)):=⟨y33 ha.un hb.un⟩
end
section
variable {K:W.Frag}
variable {X:Cx} {a b c e:Expr} {es:List Expr} {fa fb f:Ro→Option D} {fc fd:Ro→Option Bool} {ga:Ro→Option (List D)} {pos:Pos} {rest:List Expr}
theorem Yjy(ha:ZC X a fa)(hb:ZC X b fb):ZT X (.Compare a [.IsNot] [b] pos) (b2 fa fb (isN true)):=⟨y0u ha.un hb.un⟩
end
section
variable {K:W.Frag}
variable {X:Cx} {a b c e:Expr} {es:List Expr} {fa fb f:Ro→Option D} {fc fd:Ro→Option Bool} {ga:Ro→Option (List D)} {pos:Pos} {rest:List Expr}
theorem Yj(ha:ZC X a fa)(hb:ZC X b fb)(hs:Yin b:=by intro _ _;rfl):ZE X (.Subscript a b pos) (b2 fa fb ixD):=⟨Yvd ha.un hb.un hs⟩
end
section
variable {K:W.Frag}
variable {X:Cx} {a b c e:Expr} {es:List Expr} {fa fb f:Ro→Option D} {fc fd:Ro→Option Bool} {ga:Ro→Option (List D)} {pos:Pos} {rest:List Expr}
theorem Ykm{lo hi:Option Expr}{fl fh:Option (Ro→Option D)}{p2:Pos}(ha:ZC X a fa)(hl:ZO X lo fl)(hh:ZO X hi fh):ZF X (.Subscript a (.Slice lo hi none p2) pos) (slF fa fl fh):=⟨Yxu ha.un hl.un hh.un⟩
end
section
variable {K:W.Frag}
variable {X:Cx} {a b c e:Expr} {es:List Expr} {fa fb f:Ro→Option D} {fc fd:Ro→Option Bool} {ga:Ro→Option (List D)} {pos:Pos} {rest:List Expr}
theorem Ypm :ZO X none none:=⟨y6r ⟩
end
section
variable {K:W.Frag}
variable {X:Cx} {a b c e:Expr} {es:List Expr} {fa fb f:Ro→Option D} {fc fd:Ro→Option Bool} {ga:Ro→Option (List D)} {pos:Pos} {rest:List Expr}
theorem Ykn(h:ZC X e f):ZO X (some e) (some f):=⟨y6s h.un⟩
end
section
variable {K:W.Frag}
variable {X:Cx} {a b c e:Expr} {es:List Expr} {fa fb f:Ro→Option D} {fc fd:Ro→Option Bool} {ga:Ro→Option (List D)} {pos:Pos} {rest:List Expr}
theorem Yz{g:Ro→Option (List D)}(h:ZF X e g):ZE X e (lF g):=⟨MF.me h.un⟩
end
section
variable {K:W.Frag}
variable {X:Cx} {a b c e:Expr} {es:List Expr} {fa fb f:Ro→Option D} {fc fd:Ro→Option Bool} {ga:Ro→Option (List D)} {pos:Pos} {rest:List Expr}
theorem Yl :ZA X [] aNil:=⟨Yvf ⟩
end
section
variable {K:W.Frag}
variable {X:Cx} {a b c e:Expr} {es:List Expr} {fa fb f:Ro→Option D} {fc fd:Ro→Option Bool} {ga:Ro→Option (List D)} {pos:Pos} {rest:List Expr}
theorem Yb(ha:ZE X e f)(hr:ZA X es ga)(hs:starEach (e::es) X.env=(false,eval e X.env)::starEach es X.env:=by rfl):ZA X (e::es) (Yh f ga):=⟨Yqx ha.un hr.un hs⟩
end
section
variable {K:W.Frag}
variable {X:Cx} {a b c e:Expr} {es:List Expr} {fa fb f:Ro→Option D} {fc fd:Ro→Option Bool} {ga:Ro→Option (List D)} {pos:Pos} {rest:List Expr}
theorem Yu :ZCA X [] aNil:=⟨Yqy ⟩
end
section
variable {K:W.Frag}
variable {X:Cx} {a b c e:Expr} {es:List Expr} {fa fb f:Ro→Option D} {fc fd:Ro→Option Bool} {ga:Ro→Option (List D)} {pos:Pos} {rest:List Expr}
theorem Yp(ha:ZC X e f)(hr:ZCA X es ga)(hs:starEach (e::es) X.env=(false,eval e X.env)::starEach es X.env:=by rfl):ZCA X (e::es) (Yh f ga):=⟨Ynb ha.un hr.un hs⟩
end
section
variable {K:W.Frag}
variable {X:Cx} {a b c e:Expr} {es:List Expr} {fa fb f:Ro→Option D} {fc fd:Ro→Option Bool} {ga:Ro→Option (List D)} {pos:Pos} {rest:List Expr}
theorem Ybd{x1}(h:ZA X es ga):ZE X (.Tuple es x1 pos) (dTup ga):=⟨y35 h.un⟩
end
section
variable {K:W.Frag}
variable {X:Cx} {a b c e:Expr} {es:List Expr} {fa fb f:Ro→Option D} {fc fd:Ro→Option Bool} {ga:Ro→Option (List D)} {pos:Pos} {rest:List Expr}
theorem Yd0(h:ZA X es ga):ZF X (.List es pos) (dLst ga):=⟨Yzg h.un⟩
end
section
variable {K:W.Frag}
variable {X:Cx} {a b c e:Expr} {es:List Expr} {fa fb f:Ro→Option D} {fc fd:Ro→Option Bool} {ga:Ro→Option (List D)} {pos:Pos} {rest:List Expr}
variable {x:Str} {p:Pos} {id T:String} {r:List V→Hp→VK→Prop} {g:List D→Option D} {gf:List D→Option (List D)}
theorem Yae(hc:Ydx X (.builtin id) r)(hr:SemC X.K r g)(hg:Gl X x)(hm:X.mg x=none)(hv:bootBuiltins x=some (.builtin id))(ha:ZCA X (e::es) ga)(hn:x≠"__name__":=by decide)(hdb:(x==("__debug__":Str))=false:=by decide)(he:starEach (e::es) X.env=(false,eval e X.env)::starEach es X.env:=by rfl)(hpl:(backTo pos (starEach es X.env)).any (·.1)=false:=by rfl):ZE X (.Call (.Name x p) (e::es) [] pos) (cC ga g):=⟨Yxv hc hr hg hm hv ha.un hn hdb he hpl⟩
end
section
variable {K:W.Frag}
variable {X:Cx} {a b c e:Expr} {es:List Expr} {fa fb f:Ro→Option D} {fc fd:Ro→Option Bool} {ga:Ro→Option (List D)} {pos:Pos} {rest:List Expr}
variable {x:Str} {p:Pos} {id T:String} {r:List V→Hp→VK→Prop} {g:List D→Option D} {gf:List D→Option (List D)}
theorem Yf4(hc:Ydx X (.builtin id) r)(hr:SemF X.K r gf)(hg:Gl X x)(hm:X.mg x=none)(hv:bootBuiltins x=some (.builtin id))(ha:ZCA X (e::es) ga)(hn:x≠"__name__":=by decide)(hdb:(x==("__debug__":Str))=false:=by decide)(he:starEach (e::es) X.env=(false,eval e X.env)::starEach es X.env:=by rfl)(hpl:(backTo pos (starEach es X.env)).any (·.1)=false:=by rfl):ZF X (.Call (.Name x p) (e::es) [] pos) (cF ga gf):=⟨Yxw hc hr hg hm hv ha.un hn hdb he hpl⟩
end
section
variable {K:W.Frag}
variable {X:Cx} {a b c e:Expr} {es:List Expr} {fa fb f:Ro→Option D} {fc fd:Ro→Option Bool} {ga:Ro→Option (List D)} {pos:Pos} {rest:List Expr}
variable {x:Str} {p:Pos} {id T:String} {r:List V→Hp→VK→Prop} {g:List D→Option D} {gf:List D→Option (List D)}
theorem Yas(hc:Ydx X (.type T) r)(hr:SemC X.K r g)(hg:Gl X x)(hm:X.mg x=none)(hv:bootBuiltins x=some (.type T))(ha:ZCA X (e::es) ga)(hn:x≠"__name__":=by decide)(hdb:(x==("__debug__":Str))=false:=by decide)(he:starEach (e::es) X.env=(false,eval e X.env)::starEach es X.env:=by rfl)(hpl:(backTo pos (starEach es X.env)).any (·.1)=false:=by rfl):ZE X (.Call (.Name x p) (e::es) [] pos) (cC ga g):=⟨Yvh hc hr hg hm hv ha.un hn hdb he hpl⟩
end
section
variable {K:W.Frag}
variable {X:Cx} {a b c e:Expr} {es:List Expr} {fa fb f:Ro→Option D} {fc fd:Ro→Option Bool} {ga:Ro→Option (List D)} {pos:Pos} {rest:List Expr}
variable {x:Str} {p:Pos} {id T:String} {r:List V→Hp→VK→Prop} {g:List D→Option D} {gf:List D→Option (List D)}
theorem Ybe(hc:Ydx X (.type T) r)(hr:SemF X.K r gf)(hg:Gl X x)(hm:X.mg x=none)(hv:bootBuiltins x=some (.type T))(ha:ZCA X (e::es) ga)(hn:x≠"__name__":=by decide)(hdb:(x==("__debug__":Str))=false:=by decide)(he:starEach (e::es) X.env=(false,eval e X.env)::starEach es X.env:=by rfl)(hpl:(backTo pos (starEach es X.env)).any (·.1)=false:=by rfl):ZF X (.Call (.Name x p) (e::es) [] pos) (cF ga gf):=⟨Yvi hc hr hg hm hv ha.un hn hdb he hpl⟩
end
section
variable {K:W.Frag}
variable {X:Cx} {e:Expr} {f:Ro→Option D} {gl:Ro→Option (List D)} {pos pos':Pos} {st:Stmt} {sts:List Stmt} {fs gs:Ro→Option Out}
theorem Yaa :ZB X [] sNil:=⟨y36 ⟩
end
section
variable {K:W.Frag}
variable {X:Cx} {e:Expr} {f:Ro→Option D} {gl:Ro→Option (List D)} {pos pos':Pos} {st:Stmt} {sts:List Stmt} {fs gs:Ro→Option Out}
theorem Yk(h1:ZS X st fs)(h2:ZB X sts gs):ZB X (st::sts) (sSeq fs gs):=⟨y0x h1.un h2.un⟩
end
section
variable {K:W.Frag}
variable {X:Cx} {e:Expr} {f:Ro→Option D} {gl:Ro→Option (List D)} {pos pos':Pos} {st:Stmt} {sts:List Stmt} {fs gs:Ro→Option Out}
theorem Yn(h1:ZS X st fs):ZB X [st] fs:=⟨y37 h1.un⟩
end
section
variable {K:W.Frag}
variable {X:Cx} {e:Expr} {f:Ro→Option D} {gl:Ro→Option (List D)} {pos pos':Pos} {st:Stmt} {sts:List Stmt} {fs gs:Ro→Option Out}
theorem Yni(is:List Nat)(h:ZS X st fs):ZS X st (wF is fs):=⟨y38 is h.un⟩
end
section
variable {K:W.Frag}
variable {X:Cx} {e:Expr} {f:Ro→Option D} {gl:Ro→Option (List D)} {pos pos':Pos} {st:Stmt} {sts:List Stmt} {fs gs:Ro→Option Out}
theorem Yah(i:Nat){x:Str}(hN:X.N.Nodup)(he:ZE X e f)(hi:X.N[i]?=some x:=by rfl)(hx:Loc X.env.scope x:=by first | exact Or.inl rfl | exact Or.inr rfl)(hs:swapsWith e (some (.Name x pos')) pos.line X.env=pure false:=by rfl)(hf:X.fn x=true∨X.env.scope.names.lookup x=some .local:=by first | exact .inl rfl | exact .inr rfl):ZS X (.Assign [.Name x pos'] e pos) (sSet i f):=⟨Yzi i hN he.un hi hx hs hf⟩
end
section
variable {K:W.Frag}
variable {X:Cx} {e:Expr} {f:Ro→Option D} {gl:Ro→Option (List D)} {pos pos':Pos} {st:Stmt} {sts:List Stmt} {fs gs:Ro→Option Out}
theorem Yfh(i:Nat){x:Str}(hN:X.N.Nodup)(he:ZF X e gl)(hi:X.N[i]?=some x:=by rfl)(hx:Loc X.env.scope x:=by first | exact Or.inl rfl | exact Or.inr rfl)(hs:swapsWith e (some (.Name x pos')) pos.line X.env=pure false:=by rfl)(hf:X.fn x=true∨X.env.scope.names.lookup x=some .local:=by first | exact .inl rfl | exact .inr rfl):ZS X (.Assign [.Name x pos'] e pos) (sOwn i gl):=⟨y4b i hN he.un hi hx hs hf⟩
end
section
variable {K:W.Frag}
variable {X:Cx} {e:Expr} {f:Ro→Option D} {gl:Ro→Option (List D)} {pos pos':Pos} {st:Stmt} {sts:List Stmt} {fs gs:Ro→Option Out}
theorem Yt(he:ZE X e f):ZS X (.Return (some e) pos) (sRet f):=⟨y4c he.un⟩
end
section
variable {K:W.Frag}
variable {X:Cx} {e:Expr} {f:Ro→Option D} {gl:Ro→Option (List D)} {pos pos':Pos} {st:Stmt} {sts:List Stmt} {fs gs:Ro→Option Out}
theorem Yal{c:Expr}{a b:List Stmt}{fc:Ro→Option Bool}(hc:ZT X c fc)(ha:ZB X a fs)(hb:ZB X b gs):ZS X (.If c a b pos) (sIf fc fs gs):=⟨y6t hc.un ha.un hb.un⟩
end
section
variable {K:W.Frag}
variable {X:Cx} {e:Expr} {f:Ro→Option D} {gl:Ro→Option (List D)} {pos pos':Pos} {st:Stmt} {sts:List Stmt} {fs gs:Ro→Option Out}
theorem Ydv(i:Nat){x:Str}{p2 apos cpos:Pos}(he:ZE X e f)(hN:X.N[i]?=some x:=by rfl)(hv:Vis X.env.scope x:=by first | exact Or.inl rfl | exact Or.inr (Or.inl rfl) | exact Or.inr (Or.inr rfl))(hd:(x==("__debug__":Str))=false:=by decide)(hcd:(x==("__classdict__":Str))=false:=by decide)(hse:swapsWith (.Call (.Attribute (.Name x p2) "append" apos) [e] [] cpos) none pos.line X.env=pure false:=by rfl)(hs:starEach [e] X.env=[(false,eval e X.env)]:=by rfl)(hfew:((backTo cpos (starEach [e] X.env)).all (fun x=>!x.1)&&(backToKw cpos (keywordEach [] X.env)).all (fun x=>x.1.isSome)&&decide ([e].length+([]:List Keyword).length+(if ([]:List Keyword).isEmpty then 0 else 1) < 30))=true:=by rfl)(hline:(apos.endLine==cpos.line)=true:=by rfl)(hbase:attributeBase (.Name x p2) "append" X.env (eval (.Name x p2) X.env)=eval (.Name x p2) X.env:=by rfl):ZS X (.Expr (.Call (.Attribute (.Name x p2) "append" apos) [e] [] cpos) pos) (sMut i f appD):=⟨Yvk i he.un hN hv hd hcd hse hs hfew hline hbase⟩
end
section
variable {K:W.Frag}
variable {X:Cx} {e:Expr} {f:Ro→Option D} {gl:Ro→Option (List D)} {pos pos':Pos} {st:Stmt} {sts:List Stmt} {fs gs:Ro→Option Out}
variable {tg:Expr}
theorem Yau{l:Expr}(hl:ZE X l f):ZI X tg l (b1 f Yr):=⟨y4f hl.un⟩
end
section
variable {K:W.Frag}
variable {X:Cx} {e:Expr} {f:Ro→Option D} {gl:Ro→Option (List D)} {pos pos':Pos} {st:Stmt} {sts:List Stmt} {fs gs:Ro→Option Out}
variable {tg:Expr}
theorem Ye5{a:Expr}{ga:Ro→Option (List D)}{p:Pos}(hg:Gl X "range")(hm:X.mg "range"=none)(ha:ZA X [a] ga)(hs:starEach [a] X.env=[(false,eval a X.env)]:=by rfl):ZI X tg (.Call (.Name "range" p) [a] [] pos) (cF ga rng1):=⟨Yvn hg hm ha.un hs⟩
end
section
variable {K:W.Frag}
variable {X:Cx} {e:Expr} {f:Ro→Option D} {gl:Ro→Option (List D)} {pos pos':Pos} {st:Stmt} {sts:List Stmt} {fs gs:Ro→Option Out}
variable {tg:Expr}
theorem Ytz{a b:Expr}{ga:Ro→Option (List D)}{p:Pos}(hg:Gl X "range")(hm:X.mg "range"=none)(ha:ZA X [a,b] ga)(hs:starEach [a,b] X.env=[(false,eval a X.env),(false,eval b X.env)]:=by rfl)(hs2:starEach [b] X.env=[(false,eval b X.env)]:=by rfl):ZI X tg (.Call (.Name "range" p) [a,b] [] pos) (cF ga rng2):=⟨Yvo hg hm ha.un hs hs2⟩
end
section
variable {K:W.Frag}
variable {X:Cx} {e:Expr} {f:Ro→Option D} {gl:Ro→Option (List D)} {pos pos':Pos} {st:Stmt} {sts:List Stmt} {fs gs:Ro→Option Out}
variable {tg:Expr}
theorem Yab(i:Nat){x:Str}(hN:X.N.Nodup)(hi:X.N[i]?=some x:=by rfl)(hx:Loc X.env.scope x:=by first | exact Or.inl rfl | exact Or.inr rfl)(hf:X.fn x=true∨X.env.scope.names.lookup x=some .local:=by first | exact .inl rfl | exact .inr rfl):ZG X (.Name x pos) (gSet i):=⟨y0y i hN hi hx hf⟩
end
section
variable {K:W.Frag}
variable {X:Cx} {e:Expr} {f:Ro→Option D} {gl:Ro→Option (List D)} {pos pos':Pos} {st:Stmt} {sts:List Stmt} {fs gs:Ro→Option Out}
variable {tg:Expr}
theorem Ynj(i j:Nat){x y:Str}{px py:Pos}{k:Nat}(hc:X.calm=true)(hN:X.N.Nodup)(hi:X.N[i]?=some x:=by rfl)(hj:X.N[j]?=some y:=by rfl)(hx:Loc X.env.scope x:=by first | exact Or.inl rfl | exact Or.inr rfl)(hy:Loc X.env.scope y:=by first | exact Or.inl rfl | exact Or.inr rfl)(hf:X.fn x=true∨X.env.scope.names.lookup x=some .local:=by first | exact .inl rfl | exact .inr rfl)(hf2:X.fn y=true∨X.env.scope.names.lookup y=some .local:=by first | exact .inl rfl | exact .inr rfl):ZG X (.Tuple [.Name x px,.Name y py] k pos) (Yj9 i j):=⟨y0z i j hc hN hi hj hx hy hf hf2⟩
end
section
variable {K:W.Frag}
variable {X:Cx} {e:Expr} {f:Ro→Option D} {gl:Ro→Option (List D)} {pos pos':Pos} {st:Stmt} {sts:List Stmt} {fs gs:Ro→Option Out}
variable {tg:Expr}
theorem Yiw{iter:Expr}{body:List Stmt}{gt:D→Ro→Option Ro}(hp:PassesOwn (model X.prog X.w) X.A X.env X.xe)(hc:X.calm=true)(hi:ZI X tg iter gl)(hg:ZG X tg gt)(hb:ZB X body fs)(hs:∀x,foldedSetIterable iter X.env x=pure x:=by intro _;rfl):ZS X (.For tg iter body [] pos) (sFor gl gt fs):=⟨y4g hp hc hi.un hg.un hb.un hs⟩
end
section
variable {K:W.Frag}
variable {X:Cx} {e:Expr} {f:Ro→Option D} {gl:Ro→Option (List D)} {pos pos':Pos} {st:Stmt} {sts:List Stmt} {fs gs:Ro→Option Out}
variable {tg:Expr}
theorem Ywg{c:Expr}{body:List Stmt}{fc:Ro→Option Bool}(n:Nat)(hp:PassesOwn (model X.prog X.w) X.A X.env X.xe)(hc:ZT X c fc)(hb:ZB X body fs):ZS X (.While c body [] pos) (Yfx fc fs n):=⟨Yxy n hp hc.un hb.un⟩
end
section
variable {K:W.Frag}
variable {X:Cx} {e:Expr} {f:Ro→Option D} {gl:Ro→Option (List D)} {pos pos':Pos} {st:Stmt} {sts:List Stmt} {fs gs:Ro→Option Out}
variable {tg:Expr}
theorem Ya8 :ZIfs X X.K [] tY:=⟨y4h ⟩
end
section
variable {K:W.Frag}
variable {X:Cx} {e:Expr} {f:Ro→Option D} {gl:Ro→Option (List D)} {pos pos':Pos} {st:Stmt} {sts:List Stmt} {fs gs:Ro→Option Out}
variable {tg:Expr}
variable {elt iter:Expr} {ifs:List Expr} {scope:Scope} {N:List Str} {src:List (Option Nat)} {gt:D→Ro→Option Ro} {fc:Ro→Option Bool} {fe:Ro→Option D}
theorem Yan(S:CompSc X.N X.env.scope N src scope)(hc:X.calm=true)(hit:ZI X tg iter gl)(hg:∀cl C fp s H,ZG (Ya3 X scope N cl C fp s H) tg gt)(hi:∀cl C fp s H,ZIfs (Ya3 X scope N cl C fp s H) X.K ifs fc)(he:∀cl C fp s H,ZE (Ya3 X scope N cl C fp s H) elt fe)(hle:∀ρ d ρ1,gt d (capR src ρ)=some ρ1→Le (capR src ρ) ρ1)(hs:∀x,foldedSetIterable iter X.env x=pure x:=by intro _;rfl):ZF X (.ListComp elt [⟨tg,iter,ifs,0⟩] scope pos) (Ybs gl src gt fc fe):=⟨y01 S hc hit.un (fun cl C fp s H=>(hg cl C fp s H).un) (fun cl C fp s H=>(hi cl C fp s H).un) (fun cl C fp s H=>(he cl C fp s H).un) hle hs⟩
end
section
variable {K:W.Frag}
variable {X:Cx} {e:Expr} {f:Ro→Option D} {gl:Ro→Option (List D)} {pos pos':Pos} {st:Stmt} {sts:List Stmt} {fs gs:Ro→Option Out}
variable {tg:Expr}
variable {elt iter:Expr} {ifs:List Expr} {scope:Scope} {N:List Str} {src:List (Option Nat)} {gt:D→Ro→Option Ro} {fc:Ro→Option Bool} {fe:Ro→Option D}
theorem Yh5(i:Nat){y:Str}{py spos:Pos}(hN:X.N.Nodup)(S:CompSc X.N X.env.scope N src scope)(hc:X.calm=true)(hit:ZI X tg iter gl)(hg:∀cl C fp s H,ZG (Ya3 X scope N cl C fp s H) tg gt)(hi:∀cl C fp s H,ZIfs (Ya3 X scope N cl C fp s H) X.K ifs fc)(he:∀cl C fp s H,ZE (Ya3 X scope N cl C fp s H) elt fe)(hle:∀ρ d ρ1,gt d (capR src ρ)=some ρ1→Le (capR src ρ) ρ1)(hsw:swapsWith (.ListComp elt [⟨tg,iter,ifs,0⟩] scope pos) (some (.Name y py)) spos.line X.env=pure true:=by rfl)(hy:X.N[i]?=some y:=by rfl)(hx:Loc X.env.scope y:=by first | exact Or.inl rfl | exact Or.inr rfl)(hf:X.fn y=true∨X.env.scope.names.lookup y=some .local:=by first | exact .inl rfl | exact .inr rfl)(hs:∀x,foldedSetIterable iter X.env x=pure x:=by intro _;rfl):ZS X (.Assign [.Name y py] (.ListComp elt [⟨tg,iter,ifs,0⟩] scope pos) spos) (sOwn i (Ybs gl src gt fc fe)):=⟨y02 i hN S hc hit.un (fun cl C fp s H=>(hg cl C fp s H).un) (fun cl C fp s H=>(hi cl C fp s H).un) (fun cl C fp s H=>(he cl C fp s H).un) hle hsw hy hx hf hs⟩
end
section
variable {K:W.Frag}
variable {X:Cx} {e:Expr} {f:Ro→Option D} {gl:Ro→Option (List D)} {pos pos':Pos} {st:Stmt} {sts:List Stmt} {fs gs:Ro→Option Out}
variable {tg:Expr}
variable {P:Program} {w:World} {mg:Str→Option Value} {base:Heap}
theorem Ys{x qual:Str}{st:Stmt}{f:Addr}{fd:FuncData}{N ps:List Str}{k n m:Nat}{fb:Ro→Option Out}(F:Fun K x qual st f fd)(S:FnScope N ps (defScope st))(hn:N.length=n)(hm:ps.length=m)(hb:∀(cdv:Value) (A:Around) (outer:List Env) (s:Shared) (H:Hp) (E:XK),Room k (A.deeper (envOfC qual (defScope st) s.heap.objs.size f cdv))→ZB (cxOf CX0 P w K mg base N qual (defScope st) f cdv A outer s H E).nox (defBody st) fb):FnOk P w K mg base CX0 (k+1) f fd ps (spOf K m (runB m n fb)):=Yvq F S hn hm (fun cdv A outer s H E hr=>(hb cdv A outer s H E hr).un)
end
section
variable {K:W.Frag}
variable {X:Cx} {a b e:Expr} {es:List Expr} {fa fb:Ro→Option D} {ga:Ro→Option (List D)} {pos:Pos}
theorem Ym{j k n:Nat}{x:Str}{p:Pos}{ps:List Str}{fn:List D→Option D}(c:Okf X.prog X.w X.K X.mg X.base j n x ps fn)(hr:Room k X.A)(hg:Gl X x)(ha:ZA X (e::es) ga)(hl:∀ρ l,ga ρ=some l→l.length=n)(hj:j≤k:=by first | exact qt _ | lia)(hdb:(x==("__debug__":Str))=false:=by decide)(he:starEach (e::es) X.env=(false,eval e X.env)::starEach es X.env:=by rfl)(hpl:(backTo pos (starEach es X.env)).any (·.1)=false:=by rfl):ZE X (.Call (.Name x p) (e::es) [] pos) (cC ga fn):=⟨Yx0 c hr hg ha.un hl hj hdb he hpl⟩
end
section
variable {K:W.Frag}
variable {X:Cx} {a b e:Expr} {es:List Expr} {fa fb:Ro→Option D} {ga:Ro→Option (List D)} {pos:Pos}
theorem Yf5(ha:ZC X a fa)(hb:ZC X b fb):ZE X (.BinOp a .Add b pos) (b2 fa fb addI):=⟨y4i ha.un hb.un⟩
end
section
variable {K:W.Frag}
variable {X:Cx} {a b e:Expr} {es:List Expr} {fa fb:Ro→Option D} {ga:Ro→Option (List D)} {pos:Pos}
theorem Ynk(ha:ZC X a fa):ZE X (.UnaryOp .USub a pos) (b1 fa negI):=⟨y4j ha.un⟩
end
section
variable {K:W.Frag}
variable {X:Cx} {a b e:Expr} {es:List Expr} {fa fb:Ro→Option D} {ga:Ro→Option (List D)} {pos:Pos}
theorem Yf6(ha:ZC X a fa)(hb:ZC X b fb):ZF X (.BinOp a .Add b pos) (b2 fa fb catD):=⟨y4k ha.un hb.un⟩
end
section
variable {K:W.Frag}
variable {X:Cx} {a b e:Expr} {es:List Expr} {fa fb:Ro→Option D} {ga:Ro→Option (List D)} {pos:Pos}
theorem Yhh{T:String}{tn:Str}{p p2:Pos}(ha:ZC X a fa)(hg:Gl X "isinstance")(hg2:Gl X tn)(hm:X.mg "isinstance"=none)(hm2:X.mg tn=none)(hv2:bootBuiltins tn=some (.type T))(hk:Kit T)(hv:bootBuiltins "isinstance"=some (.builtin "isinstance"):=by decide +kernel)(hn2:tn≠"__name__":=by decide)(hd2:(tn==("__debug__":Str))=false:=by decide)(hs:starEach [a,.Name tn p2] X.env=(false,eval a X.env)::starEach [.Name tn p2] X.env:=by rfl)(hs2:starEach [.Name tn p2] X.env=(false,eval (.Name tn p2) X.env)::starEach [] X.env:=by rfl)(hpl:(backTo pos (starEach [.Name tn p2] X.env)).any (·.1)=false:=by rfl):ZE X (.Call (.Name "isinstance" p) [a,.Name tn p2] [] pos) (mB (b1 fa (isiD T))):=⟨y4l ha.un hg hg2 hm hm2 hv2 hk hv hn2 hd2 hs hs2 hpl⟩
end
section
variable {K:W.Frag}
variable {elts:List Expr} {x1:Nat} {pt:Pos}
variable {X:Cx} {pos:Pos}
theorem Yfi{l:Expr}{f:Ro→Option D}{p:Pos}(hg:Gl X "enumerate")(hm:X.mg "enumerate"=none)(hl:ZE X l f)(hs:starEach [l] X.env=[(false,eval l X.env)]:=by rfl):ZI X (.Tuple elts x1 pt) (.Call (.Name "enumerate" p) [l] [] pos) (b1 f Ylq):=⟨Ypa hg hm hl.un hs⟩
end
section
theorem Yyh{X:Cx}{es:List Expr}{pos:Pos}(ns:List Int)(h:Yq1 es=some ns:=by decide +kernel):ZF X (.List es pos) (Ykh ns):=⟨Yvz ns h⟩
end
section
theorem Yyi(X:Cx)(pos' pos p1 p2:Pos)(x:Str)(i:Nat)(es:List Expr)(b:Expr)(fb:Ro→Option D)(ns:List Int)(hN:X.N.Nodup)(h:Yq1 es=some ns)(hi:X.N[i]?=some x)(hx:Loc X.env.scope x)(hf:X.fn x=true∨X.env.scope.names.lookup x=some .local)(hs:Yin b)(hb:ZC X b fb):ZS X (.Assign [.Name x pos'] (.Subscript (.List es p1) b p2) pos) (sSet i (b2 (lF (Ykh ns)) fb ixD)):=⟨y09 X pos' pos p1 p2 x i es b fb ns hN h hi hx hf hs hb.un⟩
end
section
variable {X:Cx} {a b c e:Expr} {fa fb fc:Ro→Option D} {pos:Pos} {st:Stmt}
theorem Ywh{op op':CmpOp}{r r':R2}{g g':D→D→Option Bool}(ho:OpR X (compareOp op) r)(hr:Ygt X.K r g)(ho':OpR X (compareOp op') r')(hr':Ygt X.K r' g')(ha:ZC X a fa)(hb:ZC X b fb)(hc:ZC X c fc)(hm:lastMarks [op,op'] [b,c]=false:=by with_unfolding_all rfl):ZE X (.Compare a [op,op'] [b,c] pos) (mB (ch3 fa fb fc g g')):=⟨Yx3 ho hr ho' hr' ha.un hb.un hc.un hm⟩
end
section
variable {X:Cx} {a b c e:Expr} {fa fb fc:Ro→Option D} {pos:Pos} {st:Stmt}
theorem Yd1 :ZS X st nS:=⟨Yx4 ⟩
end
section
variable {X:Cx} {e:Expr} {f:Ro→Option D} {fc:Ro→Option Bool} {gl:Ro→Option (List D)} {K:W.Frag}
theorem Ysu(is:List Nat)(h:ZE X e f):ZE X e (Ytn is f):=⟨y1a is h.un⟩
end
section
variable {X:Cx} {e:Expr} {f:Ro→Option D} {fc:Ro→Option Bool} {gl:Ro→Option (List D)} {K:W.Frag}
theorem Yyj(is:List Nat)(h:ZT X e fc):ZT X e (Yx5 is fc):=⟨y1b is h.un⟩
end
section
variable {K:W.Frag}
variable {X:Cx}
variable {a b e f':Expr} {fa fb f fz:Ro→Option D} {pos:Pos}
theorem y1s(hu:X.A.units+64 < cLine)(ha:ZC X a fa)(hb:ZC X b fb)(hm:behindInMarks .In b=false:=by with_unfolding_all rfl):ZE X (.Compare a [.In] [b] pos) (mB (b2 fa fb (hasI false))):=⟨y4u hu ha.un hb.un hm⟩
end
section
variable {K:W.Frag}
variable {X:Cx}
variable {a b e f':Expr} {fa fb f fz:Ro→Option D} {pos:Pos}
theorem Yyk(hu:X.A.units+64 < cLine)(i:Nat){x:Str}{ie:Expr}{p2 p3:Pos}(hb:ZC X ie fb)(he:ZE X e f)(hN:X.N[i]?=some x:=by rfl)(hv:Vis X.env.scope x:=by first | exact Or.inl rfl | exact Or.inr (Or.inl rfl) | exact Or.inr (Or.inr rfl))(hd:(x==("__debug__":Str))=false:=by decide)(hcd:(x==("__classdict__":Str))=false:=by decide)(ha:∀v,assign (.Subscript (.Name x p2) ie p3) X.env v=(do
 let ov ←holding [v] (eval (.Name x p2) X.env)
 let iv ←holding [v,ov] (eval ie X.env)
 standAt p3
 holding [v,ov,iv] (setItem ov iv v)
 release [v,ov,iv] []):=by intro _;rfl) (hs:swapsWithSole [.Subscript (.Name x p2) ie p3] e pos.line X.env=pure false:=by rfl) (hw:swappedStores [.Subscript (.Name x p2) ie p3] e X.env=pure none:=by rfl) (h1:(assignEach [.Subscript (.Name x p2) ie p3] X.env).map (·.2)=[assign (.Subscript (.Name x p2) ie p3) X.env]:=by rfl):ZS X (.Assign [.Subscript (.Name x p2) ie p3] e pos) (Yv3 i fb f):=⟨y1d hu i hb.un he.un hN hv hd hcd ha hs hw h1⟩
end
section
variable {X:Cx} {a b e:Expr} {fa fb f:Ro→Option D} {pos:Pos} {K:W.Frag}
theorem Ywi(ha:ZC X a fa)(hb:ZC X b fb):ZE X (.BinOp a .RShift b pos) (b2 fa fb shrI):=⟨y4v ha.un hb.un⟩
end
section
variable {X:Cx} {a b e:Expr} {fa fb f:Ro→Option D} {pos:Pos} {K:W.Frag}
theorem y1t(ha:ZC X a fa)(hb:ZC X b fb):ZE X (.Compare a [.Is] [b] pos) (mB (b2 fa fb (isB false))):=⟨y4x ha.un hb.un⟩
end
section
variable {K:W.Frag}
variable {X:Cx} {e:Expr} {f:Ro→Option D} {pos:Pos}
theorem y1u(hc:X.calm=true)(i:Nat){x:Str}{pos' p2 cpos:Pos}(hN:X.N.Nodup)(hg:Gl X "dict")(hm:X.mg "dict"=none)(ha:ZC X e f)(hi:X.N[i]?=some x:=by rfl)(hx:Loc X.env.scope x:=by first | exact Or.inl rfl | exact Or.inr rfl)(hst:starEach [e] X.env=[(false,eval e X.env)]:=by rfl)(hpl:(backTo cpos (starEach [] X.env)).any (·.1)=false:=by rfl)(hs:swapsWith (.Call (.Name "dict" p2) [e] [] cpos) (some (.Name x pos')) pos.line X.env=pure false:=by rfl)(hf:X.fn x=true∨X.env.scope.names.lookup x=some .local:=by first | exact .inl rfl | exact .inr rfl):ZS X (.Assign [.Name x pos'] (.Call (.Name "dict" p2) [e] [] cpos) pos) (sDct i f):=⟨y4z hc i hN hg hm ha.un hi hx hst hpl hs hf⟩
end
section
variable {K:W.Frag}
variable {X:Cx}
variable {a b e f':Expr} {fa fb f fz:Ro→Option D} {pos:Pos}
theorem Yyl(hu:X.A.units+64 < cLine)(ha:ZC X a fa)(hb:ZC X b fb)(hm:behindInMarks .NotIn b=false:=by with_unfolding_all rfl):ZT X (.Compare a [.NotIn] [b] pos) (b2 fa fb (hasN true)):=⟨y1m hu ha.un hb.un hm⟩
end
section
variable {X:Cx}
variable {a e:Expr} {fa f:Ro→Option D} {pos:Pos}
theorem Yko{lo hi:Option Expr}{fl fh:Option (Ro→Option D)}{p2:Pos}(ha:ZC X a fa)(hl:ZO X lo fl)(hh:ZO X hi fh):ZE X (.Subscript a (.Slice lo hi none p2) pos) (slD fa fl fh):=⟨Yyg ha.un hl.un hh.un⟩
end
theorem Yen{X:Cx}{c:Expr}{f:Ro→Option Bool}(h:ZT X c f):ZIfs X X.K [c] f:=⟨y0h h.un⟩
theorem Yd2{X:Cx}{e:Expr}{f:Ro→Option Bool}(h:ZW X e f):ZT X e f:=⟨PW.pt h.un⟩
end
section
section
variable {X:Cx} {e:Expr} {f:Ro→Option D} {p p2 pos pos2:Pos}
theorem Yfj(hc:X.calm=true)(hg:Gl X "sorted")(hm:X.mg "sorted"=none)(hg2:Gl X "set")(hm2:X.mg "set"=none)(ha:ZC X e f)(hs:starEach [e] X.env=[(false,eval e X.env)]:=by rfl)(he:starEach [.Call (.Name "set" p2) [e] [] pos2] X.env=[(false,eval (.Call (.Name "set" p2) [e] [] pos2) X.env)]:=by rfl)(hpl:(backTo pos2 (starEach [] X.env)).any (·.1)=false:=by rfl)(hpl2:(backTo pos (starEach [] X.env)).any (·.1)=false:=by rfl):ZF X (.Call (.Name "sorted" p) [.Call (.Name "set" p2) [e] [] pos2] [] pos) (Yel f):=⟨Yty hc hg hm hg2 hm2 ha.un hs he hpl hpl2⟩
end
section
variable {X:Cx} {e:Expr} {f:Ro→Option D} {p p2 pos pos2:Pos}
theorem Ysv{a b:Expr}{fa fb:Ro→Option D}(ha:ZC X a fa)(hb:ZC X b fb):ZE X (.BinOp a .Add b pos) (b2 fa fb Ypk):=⟨y1p ha.un hb.un⟩
end
end
section
variable {K:W.Frag}
noncomputable def y6z(K:W.Frag)(j:Nat)(x:Option (Option V))(H0 G0:Hp)(F:Ends):Out→Prop
 | .nx ρ'=>∀σ' H' G',SR K H0 G0 σ' H' G' ρ'→σ'[j]?=x→F.nx σ' H'
 | .rt _=>False
 | .bk ρ'=>∀σ' H' G',SR K H0 G0 σ' H' G' ρ'→σ'[j]?=x→F.bk σ' H'
 | .ct ρ'=>∀σ' H' G',SR K H0 G0 σ' H' G' ρ'→σ'[j]?=x→F.ct σ' H'
noncomputable def sOfK(K:W.Frag)(j:Nat)(f:Ro→Option Out):TS:=fun F σ H=>∃ρ out H0 G0 G,f ρ=some out∧SR K H0 G0 σ H G ρ∧y6z K j σ[j]? H0 G0 F out
structure KS(j:Nat)(X:Cx)(st:Stmt)(f:Ro→Option Out):Prop where
 un:PS X st (sOfK X.K j f)
structure KB(j:Nat)(X:Cx)(sts:List Stmt)(f:Ro→Option Out):Prop where
 un:PSs X sts (sOfK X.K j f)
noncomputable def sOfR(K:W.Frag)(j r:Nat)(fb:Ro→Option Out):TS:=fun F σ H=>∃ρ ρ' l d H0 G0 G,fb ρ=some (.nx ρ')∧getO j ρ'=some l∧getV r (frz [r] ρ')=some d∧SR K H0 G0 σ H G ρ∧
 ∀v σ' H' G',SR K H0 G0 σ' H' G' (frz [r] ρ')→σ'[j]?=σ[j]?→Rp K G' d v→F.rt v H'
structure KR(j r:Nat)(X:Cx)(sts:List Stmt)(f:Ro→Option Out):Prop where
 un:PSs X sts (sOfR X.K j r f)
noncomputable def sOfL(K:W.Frag)(gl:Ro→Option (List D))(fb:Ro→Option Out):TS:=fun F σ H=>∃ρ ρ' l H0 G0 G,fb ρ=some (.nx ρ')∧gl ρ'=some l∧SR K H0 G0 σ H G ρ∧
 ∀p xs H' G',Gr H0 G0 H' G'→H0 p=none→G' p=none→H' p=some (.lst xs)→RpL K G' l xs→F.rt (.ref p) H'
structure KL(gl:Ro→Option (List D))(X:Cx)(sts:List Stmt)(f:Ro→Option Out):Prop where
 un:PSs X sts (sOfL X.K gl f)
theorem len1{us:List Value}(h:us.length=1):∃a0,us=[a0]:=List.length_eq_one_iff.mp h
theorem len2{us:List Value}(h:us.length=2):∃a0 a1,us=[a0,a1]:=by
 cases us with
 | nil=>cases h
 | cons a us=>
   obtain⟨b0,rfl⟩:=len1 (Nat.succ.inj h)
   exact⟨a,b0,rfl⟩
theorem len3{us:List Value}(h:us.length=3):∃a0 a1 a2,us=[a0,a1,a2]:=by
 cases us with
 | nil=>cases h
 | cons a us=>
   obtain⟨b0,b1,rfl⟩:=len2 (Nat.succ.inj h)
   exact⟨a,b0,b1,rfl⟩
theorem len4{us:List Value}(h:us.length=4):∃a0 a1 a2 a3,us=[a0,a1,a2,a3]:=by
 cases us with
 | nil=>cases h
 | cons a us=>
   obtain⟨b0,b1,b2,rfl⟩:=len3 (Nat.succ.inj h)
   exact⟨a,b0,b1,b2,rfl⟩
theorem len5{us:List Value}(h:us.length=5):∃a0 a1 a2 a3 a4,us=[a0,a1,a2,a3,a4]:=by
 cases us with
 | nil=>cases h
 | cons a us=>
   obtain⟨b0,b1,b2,b3,rfl⟩:=len4 (Nat.succ.inj h)
   exact⟨a,b0,b1,b2,b3,rfl⟩
theorem len6{us:List Value}(h:us.length=6):∃a0 a1 a2 a3 a4 a5,us=[a0,a1,a2,a3,a4,a5]:=by
 cases us with
 | nil=>cases h
 | cons a us=>
   obtain⟨b0,b1,b2,b3,b4,rfl⟩:=len5 (Nat.succ.inj h)
   exact⟨a,b0,b1,b2,b3,b4,rfl⟩
end
end M
namespace M
open PySem L2
theorem nr{α:Sort _}{a b:α}(h:a=b):a=b:=h
section
variable {ρ:Ro}
@[simp] theorem y1v{α:Type}(fa fb:Ro→Option D)(g:D→D→Option α):b2 fa fb g ρ=(fa ρ).bind fun x=>(fb ρ).bind fun y=>g x y:=nr rfl
@[simp] theorem y43{α:Type}(fa:Ro→Option D)(g:D→Option α):b1 fa g ρ=(fa ρ).bind g:=nr rfl
@[simp] theorem ap_kD(d:D):kD d ρ=some d:=nr rfl
@[simp] theorem ap_mB(f:Ro→Option Bool):mB f ρ=(f ρ).map D.bl:=nr rfl
@[simp] theorem ap_andT(f g:Ro→Option Bool):andT f g ρ=(f ρ).bind fun k=>if k=true then g ρ else some false:=nr rfl
@[simp] theorem ap_orT(f g:Ro→Option Bool):orT f g ρ=(f ρ).bind fun k=>if k=true then some true else g ρ:=nr rfl
@[simp] theorem ap_notT(f:Ro→Option Bool):notT f ρ=(f ρ).map (!·):=nr rfl
@[simp] theorem ap_andV(f g:Ro→Option D):andV f g ρ=((f ρ).bind blD).bind fun k=>if k=true then g ρ else some (.bl false):=nr rfl
@[simp] theorem ap_orV(f g:Ro→Option D):orV f g ρ=((f ρ).bind blD).bind fun k=>if k=true then some (.bl true)else g ρ:=nr rfl
@[simp] theorem ap_lF(f:Ro→Option (List D)):lF f ρ=(f ρ).map D.lst:=nr rfl
@[simp] theorem ap_aNil:aNil ρ=some []:=nr rfl
@[simp] theorem ap_aCons(f:Ro→Option D)(g:Ro→Option (List D)):Yh f g ρ=(f ρ).bind fun d=>(g ρ).map (d::·):=nr rfl
@[simp] theorem ap_dTup(f:Ro→Option (List D)):dTup f ρ=(f ρ).bind fun l=>if l.length≤cap6 then some (.tup l)else none:=nr rfl
@[simp] theorem ap_dLst(f:Ro→Option (List D)):dLst f ρ=(f ρ).bind fun l=>if l.length≤cap6 then some l else none:=nr rfl
@[simp] theorem ap_cC(f:Ro→Option (List D))(g:List D→Option D):cC f g ρ=(f ρ).bind g:=nr rfl
@[simp] theorem ap_cF(f:Ro→Option (List D))(g:List D→Option (List D)):cF f g ρ=(f ρ).bind g:=nr rfl
@[simp] theorem ap_slF(f:Ro→Option D)(lo hi:Option (Ro→Option D)):slF f lo hi ρ=((f ρ).bind lstD).bind fun l=>(optI lo ρ).bind fun i=>(optI hi ρ).bind fun j=>some (cutD l i j):=nr rfl
@[simp] theorem ap_optN:optI none ρ=some none:=nr rfl
@[simp] theorem ap_optS(f:Ro→Option D):optI (some f) ρ=((f ρ).bind intD).map some:=nr rfl
@[simp] theorem ap_sNil:sNil ρ=some (.nx ρ):=nr rfl
@[simp] theorem ap_sSet(i:Nat)(f:Ro→Option D):sSet i f ρ=(f ρ).map fun d=>.nx (ρ.set i (some (.sh d))):=nr rfl
@[simp] theorem ap_sOwn(i:Nat)(f:Ro→Option (List D)):sOwn i f ρ=(f ρ).map fun l=>.nx (ρ.set i (some (.ow l))):=nr rfl
@[simp] theorem ap_sRet(f:Ro→Option D):sRet f ρ=(f ρ).map .rt:=nr rfl
@[simp] theorem ap_sIf(c:Ro→Option Bool)(f g:Ro→Option Out):sIf c f g ρ=(c ρ).bind fun k=>if k=true then f ρ else g ρ:=nr rfl
@[simp] theorem y1w(i:Nat)(f:Ro→Option D)(g:List D→D→Option (List D)):sMut i f g ρ=(getO i ρ).bind fun l=>(f ρ).bind fun d=>(g l d).map fun l'=>.nx (ρ.set i (some (.ow l'))):=nr rfl
@[simp] theorem Ywj(gl:Ro→Option (List D))(gt:D→Ro→Option Ro)(fb:Ro→Option Out):sFor gl gt fb ρ=(gl ρ).bind fun ds=>forM gt fb ds ρ:=nr rfl
@[simp] theorem ap_fComp(gl:Ro→Option (List D))(src:List (Option Nat))(gt:D→Ro→Option Ro)(fc:Ro→Option Bool)(fe:Ro→Option D):Ybs gl src gt fc fe ρ=(gl ρ).bind fun ds=>Ygu gt fc fe (capR src ρ) ds:=nr rfl
@[simp] theorem ap_wF(is:List Nat)(f:Ro→Option Out):wF is f ρ=f (frz is ρ):=nr rfl
@[simp] theorem ap_tY:tY ρ=some true:=nr rfl
@[simp] theorem y1x(i:Nat)(d:D):gSet i d ρ=some (ρ.set i (some (.sh d))):=nr rfl
noncomputable def y1y(g:Ro→Option Out):Out→Option Out
 | .nx ρ'=>g ρ'
 | o=>some o
@[simp] theorem thenS_nx(g:Ro→Option Out)(ρ':Ro):y1y g (.nx ρ')=g ρ':=nr rfl
@[simp] theorem thenS_rt(g:Ro→Option Out)(d:D):y1y g (.rt d)=some (.rt d):=nr rfl
@[simp] theorem Ynl(f g:Ro→Option Out):sSeq f g ρ=(f ρ).bind (y1y g):=nr rfl
noncomputable def endB:Out→Option D
 | .rt d=>some d
 | .nx _=>some .non
 | _=>none
@[simp] theorem endB_rt(d:D):endB (.rt d)=some d:=nr rfl
theorem Yac{k n:Nat}{fb:Ro→Option Out}{ds:List D}(h:ds.length=k):runB k n fb ds=(fb (Yv n ds)).bind endB:=by
 unfold runB
 rw[if_pos h]
 rfl
@[simp] theorem ap_lendE(is:List Nat)(f:Ro→Option D):Ytn is f ρ=(f (frz is ρ)).bind scal:=nr rfl
@[simp] theorem ap_lendT(is:List Nat)(f:Ro→Option Bool):Yx5 is f ρ=f (frz is ρ):=nr rfl
@[simp] theorem ap_ch3(fa fb fc:Ro→Option D)(g g':D→D→Option Bool):ch3 fa fb fc g g' ρ=(fa ρ).bind fun x=>(fb ρ).bind fun y=>(g x y).bind fun k=>if k=true then (fc ρ).bind fun z=>g' y z else some false:=nr rfl
@[simp] theorem scal_int(i:Int):scal (.int i)=some (.int i):=nr rfl
@[simp] theorem scal_non:scal .non=some .non:=nr rfl
@[simp] theorem frz_nil:frz [] ρ=ρ:=nr rfl
@[simp] theorem frz_cons(i:Nat)(is:List Nat):frz (i::is) ρ=frz is (frz1 i ρ):=nr rfl
end
@[simp] theorem add_int'(i j:Int):addI (.int i) (.int j)=some (.int (i+j)):=nr rfl
@[simp] theorem sub_int'(i j:Int):subI (.int i) (.int j)=some (.int (i - j)):=nr rfl
theorem Yym{i j:Int}(h:-(2 ^ 64) < i∧i < 2 ^ 64):mulI (.int i) (.int j)=some (.int (i * j)):=by
 simp only[mulI,i2]
 rw[if_pos]
 simp only[Bool.or_eq_true,Qd,decide_eq_true_eq]
 exact .inl h
@[simp] theorem Yyn{i j:Int}(h:0 < j)(h':j < 1073741824):divI (.int i) (.int j)=some (.int (i / j)):=by
 simp only[divI,i2]
 rw[if_pos]
 simp only[Qd,decide_eq_true_eq]
 exact⟨h,h'⟩
@[simp] theorem Yh6{i j:Int}(h:0 < j):modI (.int i) (.int j)=some (.int (i % j)):=by
 simp only[modI,i2]
 rw[if_pos]
 simp only[decide_eq_true_eq]
 exact h
@[simp] theorem lt_int'(i j:Int):ltI (.int i) (.int j)=some (decide (i < j)):=nr rfl
@[simp] theorem le_int'(i j:Int):leI (.int i) (.int j)=some (decide (i≤j)):=nr rfl
@[simp] theorem gt_int'(i j:Int):gtI (.int i) (.int j)=some (decide (j < i)):=nr rfl
@[simp] theorem blD_bl(b:Bool):blD (.bl b)=some b:=nr rfl
@[simp] theorem truD_bl(b:Bool):truD (.bl b)=some b:=nr rfl
@[simp] theorem itemsOf_tup(l:List D):Yr (.tup l)=some l:=nr rfl
@[simp] theorem itemsOf_lst(l:List D):Yr (.lst l)=some l:=nr rfl
@[simp] theorem itemsOf_scr(ns:List Int):Yr (.scr ns)=some (ns.map D.int):=nr rfl
@[simp] theorem lenC_one(c:D):lenC [c]=(Yr c).map fun l=>.int l.length:=nr rfl
@[simp] theorem tupC_one(c:D):tupC [c]=(Yr c).map D.tup:=nr rfl
@[simp] theorem listF_one(c:D):Yfe [c]=Yr c:=nr rfl
@[simp] theorem intC_bl(b:Bool):intC [.bl b]=some (.int (if b then 1 else 0)):=nr rfl
@[simp] theorem y1z(c:D)(i:Int):ixD c (.int i)=(Yr c).bind fun l=>atI l i:=nr rfl
@[simp] theorem lstD_lst(l:List D):lstD (.lst l)=some l:=nr rfl
@[simp] theorem lstD_scr(ns:List Int):lstD (.scr ns)=some (ns.map D.int):=nr rfl
@[simp] theorem intD_int(i:Int):intD (.int i)=some i:=nr rfl
@[simp] theorem negI_int(i:Int):negI (.int i)=some (.int (-i)):=nr rfl
@[simp] theorem Ywk(i j:Int):eqD (.int i) (.int j)=(i==j):=by simp[eqD,toPy,PyData.eqv]
@[simp] theorem y44(i j:Bool):eqD (.bl i) (.bl j)=(i==j):=by simp[eqD,toPy,PyData.eqv]
@[simp] theorem Yra(i j:Str):eqD (.str i) (.str j)=(i==j):=by simp[eqD,toPy,PyData.eqv]
@[simp] theorem eqD_lst(l m:List D):eqD (.lst l) (.lst m)=eqL l m:=by simp[eqD,eqL,toPy,PyData.eqv]
@[simp] theorem eqL_nil:eqL [] []=true:=by simp[eqL,Ydq,PyData.eqvAll]
@[simp] theorem Yyo(a b:D)(l m:List D):eqL (a::l) (b::m)=(eqD a b&&eqL l m):=by simp[eqL,eqD,Ydq,PyData.eqvAll]
@[simp] theorem eqL_nc(b:D)(m:List D):eqL [] (b::m)=false:=by simp[eqL,Ydq,PyData.eqvAll]
@[simp] theorem eqL_cn(b:D)(m:List D):eqL (b::m) []=false:=by simp[eqL,Ydq,PyData.eqvAll]
@[simp] theorem dep_int(i:Int):dep (.int i)=0:=by simp[dep]
@[simp] theorem dep_bl(i:Bool):dep (.bl i)=0:=by simp[dep]
@[simp] theorem dep_str(i:Str):dep (.str i)=0:=by simp[dep]
@[simp] theorem dep_non:dep .non=0:=by simp[dep]
@[simp] theorem dep_lst(l:List D):dep (.lst l)=depL l+1:=by simp[dep]
@[simp] theorem depL_nil:depL []=0:=by simp[depL]
@[simp] theorem Ywl(d:D)(l:List D):depL (d::l)=max (dep d) (depL l):=by simp[depL]
theorem Yg0{neg:Bool}{d e:D}(h:dep d≤60)(h':dep e≤60):eqM neg d e=some (if neg then !eqD d e else eqD d e):=by
 unfold eqM
 rw[if_pos ⟨h,h'⟩]
theorem Yzp{neg:Bool}{d c:D}{l:List D}(hc:Yr c=some l)(h:dep d≤60)(h':depL l≤60):inM neg d c=some (if neg then !inD d l else inD d l):=by
 unfold inM
 rw[hc,qc,if_pos ⟨h',h⟩]
theorem Yh7{gt:D→Ro→Option Ro}{fc:Ro→Option Bool}{fe:Ro→Option D}{ρ:Ro}{α:Type}(enc:α→D)(p:α→Bool)(f:α→D):∀(l:List α),(∀a∈l,∃ρ1,gt (enc a) ρ=some ρ1∧fc ρ1=some (p a)∧(p a=true→fe ρ1=some (f a)))→
 Ygu gt fc fe ρ (l.map enc)=some ((l.filter p).map f)
 | [],_=>rfl
 | a::l,h=>by
   obtain⟨ρ1,h1,h2,h3⟩:=h a qg
   have ih:=Yh7 enc p f l fun b hb=>h b (qf _ hb)
   rw[Qc,Ygu,h1,qc,h2,qc]
   cases hp:p a with
   | true=>
     rw[if_pos rfl,h3 hp,qc,ih,List.filter_cons_of_pos hp]
     rfl
   | false=>rw[if_neg qh,ih,List.filter_cons_of_neg (by rw[hp];exact qh)]
@[simp] theorem atI_zero{α:Type}(a:α)(l:List α):atI (a::l) 0=some a:=by
 have:=Ym0 (xs:=a::l) (j:=0) (v:=a) rfl
 simpa using this
@[simp] theorem atI_one{α:Type}(a b:α)(l:List α):atI (a::b::l) 1=some b:=by
 have:=Ym0 (xs:=a::b::l) (j:=1) (v:=b) rfl
 simpa using this
theorem Yzq{α:Type}{l:List α}{i:Int}{j:Nat}{v:α}(hi:i=(j:Int))(h:l[j]?=some v):atI l i=some v:=by
 subst hi
 exact Ym0 h
theorem Ynm{gt:D→Ro→Option Ro}{fb:Ro→Option Out}{α:Type}(enc:α→D)(I:List α→Ro→Prop):∀(l pre:List α) (ρ:Ro),I pre ρ→
 (∀q a r ρ,pre++l=q++a::r→I q ρ→∃ρ1 ρ2,gt (enc a) ρ=some ρ1∧fb ρ1=some (.nx ρ2)∧I (q++[a]) ρ2)→∃ρ',M.forM gt fb (l.map enc) ρ=some (.nx ρ')∧I (pre++l) ρ'
 | [],pre,ρ,h0,_=>⟨ρ,rfl,by rw[List.append_nil];exact h0⟩
 | a::l,pre,ρ,h0,hs=>by
   obtain⟨ρ1,ρ2,e1,e2,h2⟩:=hs pre a l ρ rfl h0
   obtain⟨ρ',e3,h3⟩:=Ynm enc I l (pre++[a]) ρ2 h2 fun q b r ρ e hI=>hs q b r ρ (by rw[←e,List.append_assoc];rfl) hI
   refine⟨ρ',?_,by rw[List.append_assoc]at h3;exact h3⟩
   rw[Qc,M.forM,e1,qc,e2,qc]
   exact e3
theorem Yhi(a n:Int):rngD a n=(List.range (n - a).toNat).map fun i=>D.int (a+(i:Nat)):=rfl
theorem Yix{n:Int}(h:-1000000≤n)(h':n≤1000000):rng1 [.int n]=some (rngD 0 n):=by
 have hcap:(cap6:Int)=1000000:=by decide
 simp only[rng1]
 rw[if_pos]
 simp only[Qd,decide_eq_true_eq]
 lia
theorem y11{a n:Int}(h:-1000000≤n)(h':n≤1000000)(h2:-1000000≤a)(h3:a≤1000000):rng2 [.int a,.int n]=some (rngD a n):=by
 have hcap:(cap6:Int)=1000000:=by decide
 simp only[rng2]
 rw[if_pos]
 simp only[Qd,decide_eq_true_eq]
 lia
theorem Yrb{α:Type}{l:List α}{i:Int}(h0:0≤i)(h:i < (l.length:Int)):∃v,v∈l∧atI l i=some v:=by
 have hk:i.toNat < l.length:=by lia
 exact⟨l[i.toNat],qx hk,Yzq (j:=i.toNat) (by lia) (qp hk)⟩
theorem Yh8{α:Type}{l:List α}{i:Nat}(h:i < l.length):atI l (i:Int)=some l[i]:=Ym0 (qp h)
theorem Yfk{α β:Type}(f:α→β)(l:List α)(i:Int):atI (l.map f) i=(atI l i).map f:=by
 unfold atI
 rw[qe]
 cases ixN l.length i with
 | none=>rfl
 | some j=>
   show(l.map f)[j]?=(l[j]?).map f
   rw[Qg]
end M
namespace M
open PySem L2
@[simp] theorem nat_eq_iff(x b:Nat):((x:Int)=(b:Int))↔x=b:=by lia
@[simp] theorem eqM_int(neg:Bool)(i j:Int):eqM neg (.int i) (.int j)=some (if neg then !decide (i=j)else decide (i=j)):=by
 rw[Yg0 (by simp) (by simp),Ywk];rfl
@[simp] theorem eqM_bl(neg:Bool)(i j:Bool):eqM neg (.bl i) (.bl j)=some (if neg then !(i==j)else i==j):=by
 rw[Yg0 (by simp) (by simp),y44]
@[simp] theorem isN_non(neg:Bool):isN neg .non .non=some (if neg then false else true):=by cases neg<;>rfl
@[simp] theorem isN_int(neg:Bool)(i:Int):isN neg (.int i) .non=some (if neg then true else false):=by cases neg<;>rfl
@[simp] theorem isN_tup(neg:Bool)(l:List D):isN neg (.tup l) .non=some (if neg then true else false):=by cases neg<;>rfl
@[simp] theorem Yh9{α:Type}(f:α→Bool):∀l:List α,blsD (l.map fun a=>.bl (f a))=some (l.map f)
 | []=>rfl
 | a::l=>by rw[Qc,blsD,Yh9 f l];rfl
@[simp] theorem Ykp{α:Type}(f:α→Int):∀l:List α,Ycu (l.map fun a=>.int (f a))=some (l.map f)
 | []=>rfl
 | a::l=>by rw[Qc,Ycu,Ykp f l];rfl
@[simp] theorem Ykq(l:List Int):Ycu (l.map D.int)=some l:=by simpa using Ykp id l
@[simp] theorem anyC_lst(l:List D):anyC [.lst l]=(blsD l).map fun bs=>.bl (bs.any id):=nr rfl
@[simp] theorem allC_lst(l:List D):allC [.lst l]=(blsD l).map fun bs=>.bl (bs.all id):=nr rfl
@[simp] theorem enumD_of(c:D):Ylq c=(Yr c).map Ykf:=nr rfl
@[simp] theorem cap6_eq:cap6=1000000:=nr rfl
@[simp] theorem gV0(d:D)(r:Ro):getV 0 (some (.sh d)::r)=some d:=nr rfl
@[simp] theorem gC0(d:D)(r:Ro):getC 0 (some (.sh d)::r)=some d:=nr rfl
@[simp] theorem gC0o(l:List D)(r:Ro):getC 0 (some (.ow l)::r)=some (.lst l):=nr rfl
@[simp] theorem gO0(l:List D)(r:Ro):getO 0 (some (.ow l)::r)=some l:=nr rfl
@[simp] theorem gVs(n:Nat)(b:Option B)(r:Ro):getV (n+1) (b::r)=getV n r:=by simp[getV]
@[simp] theorem gCs(n:Nat)(b:Option B)(r:Ro):getC (n+1) (b::r)=getC n r:=by simp[getC]
@[simp] theorem gOs(n:Nat)(b:Option B)(r:Ro):getO (n+1) (b::r)=getO n r:=by simp[getO]
@[simp] theorem frz0o(l:List D)(r:Ro):frz1 0 (some (.ow l)::r)=some (.sh (.lst l))::r:=nr rfl
@[simp] theorem frz_s(n:Nat)(b:Option B)(r:Ro):frz1 (n+1) (b::r)=b::frz1 n r:=by
 unfold frz1
 rw[List.getElem?_cons_succ]
 cases h:r[n]? with
 | none=>rfl
 | some o=>
   cases o with
   | none=>rfl
   | some b=>cases b<;>rfl
theorem Yf7{a b:List D}(h:a.length+b.length≤1000000):catD (.lst a) (.lst b)=some (a++b):=if_pos h
theorem Yrc{l:List D}{d:D}(h:l.length < 1000000):appD l d=some (l++[d]):=if_pos h
theorem Yf8{fe:Ro→Option D}{r:Ro}{α:Type}{enc:α→D}(f:α→D){l:List α}(h:∀a∈l,fe (some (.sh (enc a))::r)=some (f a)):Ygu (gSet 0) tY fe (none::r) (l.map enc)=some (l.map f):=by
 have:=Yh7 (gt:=gSet 0) (fc:=tY) (fe:=fe) (ρ:=none::r) enc (fun _=>true) f l fun a ha=>⟨_,rfl,rfl,fun _=>h a ha⟩
 rw[List.filter_eq_self.mpr (fun _ _=>rfl)]at this
 exact this
theorem Yjc{fc:Ro→Option Bool}{fe:Ro→Option D}{r:Ro}{α:Type}{enc:α→D}(p:α→Bool)(f:α→D){l:List α}(h1:∀a∈l,fc (some (.sh (enc a))::r)=some (p a))(h2:∀a∈l,p a=true→fe (some (.sh (enc a))::r)=some (f a)) :
 Ygu (gSet 0) fc fe (none::r) (l.map enc)=some ((l.filter p).map f):=
 Yh7 (gt:=gSet 0) enc p f l fun a ha=>⟨_,rfl,h1 a ha,h2 a ha⟩
theorem y45{fc:Ro→Option Bool}{fe:Ro→Option D}{r:Ro}{α:Type}{e1 e2:α→D}(p:α→Bool)(f:α→D){l:List α}(h1:∀a∈l,fc (some (.sh (e1 a))::some (.sh (e2 a))::r)=some (p a))(h2:∀a∈l,p a=true→fe (some (.sh (e1 a))::some (.sh (e2 a))::r)=some (f a)) :
 Ygu (Yj9 0 1) fc fe (none::none::r) (l.map fun a=>.tup [e1 a,e2 a])=some ((l.filter p).map f):=
 Yh7 (gt:=Yj9 0 1) (fun a=>.tup [e1 a,e2 a]) p f l fun a ha=>⟨_,rfl,h1 a ha,h2 a ha⟩
theorem Ywm{α:Type}(enc:α→D)(d:α)(l:List α):Ykf (l.map enc)=(List.range l.length).map fun i=>.tup [.int i,enc (l.getD i d)]:=by
 unfold Ykf
 rw[qe]
 refine List.map_congr_left fun i hi=>?_
 have h:=Qa hi
 simp[h]
end M
namespace Bk
open PySem L2 M
noncomputable abbrev Say:=Nat × Bool
inductive Kd where
 | e | s | i | n
 deriving DecidableEq
inductive Rl where
 | ei (l:List Say)
 | su (b:List Nat) (o:Bool)
 | im (b:List Nat) (h:Option Nat)
 deriving DecidableEq
noncomputable def kS:Kd→Str
 | .e=>Str.ofString "eithers"
 | .s=>Str.ofString "sums"
 | .i=>Str.ofString "ifs"
 | .n=>Str.ofString "nots"
noncomputable def kdD(k:Kd):D:=.str (kS k)
noncomputable abbrev nD(n:Nat):D:=.int n
noncomputable def sayD(s:Say):D:=.tup [.int s.1,.bl s.2]
noncomputable def optD:Option Nat→D
 | none=>.non
 | some n=>.int n
noncomputable def rlD:Rl→D
 | .ei l=>.tup (l.map sayD)
 | .su b o=>.tup [.tup (b.map nD),.bl o]
 | .im b h=>.tup [.tup (b.map nD),optD h]
noncomputable def Yjh(k:Kd)(R:List Rl):D:=.tup [kdD k,.tup (R.map rlD)]
@[simp] theorem dep_kd(k:Kd):dep (kdD k)=0:=by simp[kdD]
@[simp] theorem dep_opt(h:Option Nat):dep (optD h)=0:=by cases h<;>simp[optD]
theorem y46:∀{k j:Kd},kS k=kS j→k=j:=by
 intro k j
 cases k<;>cases j<;>first | (intro _;rfl) | (intro h;exact absurd h (by decide +kernel))
@[simp] theorem y47(k j:Kd):eqD (kdD k) (kdD j)=decide (k=j):=by
 rw[kdD,kdD,Yra]
 by_cases h:k=j
 ·simp[h]
 ·have h':¬kS k=kS j:=fun e=>h (y46 e)
  simp[h,h']
theorem Ywn(neg:Bool)(k j:Kd):eqM neg (kdD k) (kdD j)=some (if neg then !decide (k=j)else decide (k=j)):=by
 rw[Yg0 (by simp) (by simp),y47]
@[simp] theorem eqM_e(neg:Bool)(k:Kd):eqM neg (kdD k) (.str (Str.ofString "eithers"))=some (if neg then !decide (k=.e)else decide (k=.e)):=Ywn neg k .e
@[simp] theorem eqM_s(neg:Bool)(k:Kd):eqM neg (kdD k) (.str (Str.ofString "sums"))=some (if neg then !decide (k=.s)else decide (k=.s)):=Ywn neg k .s
@[simp] theorem eqM_i(neg:Bool)(k:Kd):eqM neg (kdD k) (.str (Str.ofString "ifs"))=some (if neg then !decide (k=.i)else decide (k=.i)):=Ywn neg k .i
@[simp] theorem y48(a b:Nat):eqD (nD a) (nD b)=decide (a=b):=by
 rw[nD,nD,Ywk]
 by_cases h:a=b
 ·simp[h]
 ·have:¬(a:Int)=b:=by lia
  simp[h,this]
theorem Ywo{α:Type} [DecidableEq α] {enc:α→D} (he:∀a b,eqD (enc a) (enc b)=decide (a=b)) (s:α):∀l:List α,inD (enc s) (l.map enc)=decide (s∈l)
 | []=>by simp[inD]
 | t::l=>by
   have ih:=Ywo he s l
   unfold inD at ih ⊢
   rw[Qc,List.any_cons,ih,he]
   by_cases h1:t=s
   ·simp[h1]
   ·have h1':¬s=t:=fun e=>h1 e.symm
    simp[h1,h1']
theorem Yrd{n:Nat}:∀{l:List D},(∀d∈l,dep d≤n)→depL l≤n
 | [],_=>by simp
 | d::l,h=>by
   rw[Ywl]
   exact Nat.max_le.mpr ⟨h d qg,Yrd fun e he=>h e (qf _ he)⟩
theorem Ywp{α:Type} [DecidableEq α] {enc:α→D} (he:∀a b,eqD (enc a) (enc b)=decide (a=b)):∀l m:List α,eqL (l.map enc) (m.map enc)=decide (l=m)
 | [],[]=>by simp
 | [],b::m=>by simp
 | a::l,[]=>by simp
 | a::l,b::m=>by
   rw[Qc,Qc,Yyo,he,Ywp he l m]
   by_cases h1:a=b<;>by_cases h2:l=m<;>simp[h1,h2]
theorem y12{α:Type}{enc:α→D}{n:Nat}(h:∀a,dep (enc a)≤n)(l:List α):depL (l.map enc)≤n:=Yrd fun d hd=>by
 obtain⟨x,_,rfl⟩:=qw hd
 exact h x
theorem in_n{c:D}(s:Nat)(l:List Nat)(neg:Bool)(hc:Yr c=some (l.map nD)):inM neg (nD s) c=some (if neg then !decide (s∈l)else decide (s∈l)):=by
 rw[Yzp hc (by simp) (Yrd fun d hd=>by obtain⟨x,_,rfl⟩:=qw hd;simp),Ywo y48]
@[simp] theorem ix_say0(s:Say):(Yr (sayD s)).bind (fun l=>atI l 0)=some (.int s.1):=by simp[sayD]
@[simp] theorem ix_say1(s:Say):(Yr (sayD s)).bind (fun l=>atI l 1)=some (.bl s.2):=by simp[sayD]
@[simp] theorem items_ei(l:List Say):Yr (rlD (.ei l))=some (l.map sayD):=nr rfl
@[simp] theorem items_su(b:List Nat)(o:Bool):Yr (rlD (.su b o))=some [.tup (b.map nD),.bl o]:=nr rfl
@[simp] theorem items_im(b:List Nat)(h:Option Nat):Yr (rlD (.im b h))=some [.tup (b.map nD),optD h]:=nr rfl
@[simp] theorem items_book(k:Kd)(R:List Rl):Yr (Yjh k R)=some [kdD k,.tup (R.map rlD)]:=nr rfl
noncomputable def at'(ev:List Bool)(n:Nat):Bool:=ev.getD n false
theorem Yyp{ev:List Bool}{n:Nat}(h:n < ev.length):atI (ev.map D.bl) (n:Int)=some (.bl (at' ev n)):=by
 rw[Yfk,Yh8 h]
 simp[at',h]
noncomputable def In(k:Kd)(n:Nat):Rl→Prop
 | .ei l=>k=.e∧∀s∈l,s.1 < n
 | .su b _=>k=.s∧∀x∈b,x < n
 | .im b h=>(k=.i∨k=.n)∧(∀x∈b,x < n)∧∀x,h=some x→x < n
def slt(s t:Say):Prop:=s.1 < t.1∨(s.1=t.1∧s.2=false∧t.2=true)
noncomputable def Srt:Rl→Prop
 | .ei l=>l.length≤2∧l.Pairwise slt
 | .su b _=>b.Pairwise (· < ·)
 | .im b _=>b.Pairwise (· < ·)
noncomputable def hd(ev:List Bool)(w:Bool):Option Nat→Bool
 | none=>false
 | some x=>at' ev x==w
noncomputable def nth(R:List Rl)(i:Nat):Rl:=R.getD i (.ei [])
theorem Ywq{R:List Rl}{i:Nat}(h:i < R.length):nth R i∈R:=by simp[nth,h]
theorem y13(R:List Rl):Ykf (R.map rlD)=(List.range R.length).map fun i:Nat=>.tup [.int (i:Int),rlD (nth R i)]:=Ywm rlD (.ei []) R
noncomputable def so(k:Kd)(ev:List Bool):Rl→Bool
 | .ei l=>l.any fun s=>at' ev s.1==s.2
 | .su b o=>decide ((b.filter (at' ev)).length % 2=1)==o
 | .im b h=>(b.any fun x=>at' ev x != decide (k=.i))||hd ev (decide (k=.i)) h
end Bk
namespace Bk
noncomputable def brk(k:Kd)(ev:List Bool)(R:List Rl):List Nat:=(List.range R.length).filter fun i=>!so k ev (nth R i)
end Bk
namespace Bk
open PySem L2 M
noncomputable def sz:Rl→Nat
 | .ei l=>l.length
 | .su b _=>b.length
 | .im b _=>b.length
theorem Ywr{n:Nat}:∀{l:List Nat} {a:Nat},l.Pairwise (· < ·)→(∀x∈l,a≤x∧x < n)→l.length≤n - a
 | [],_,_,_=>Nat.zero_le _
 | x::l,a,h,hl=>by
   have hx:=hl x qg
   have hp:=List.pairwise_cons.mp h
   have ih:=Ywr (n:=n) (l:=l) (a:=x+1) hp.2 fun y hy=>⟨hp.1 y hy,(hl y (qf _ hy)).2⟩
   rw[qq]
   lia
theorem y49{n:Nat}{l:List Nat}(h:l.Pairwise (· < ·))(hl:∀x∈l,x < n):l.length≤n:=Ywr (a:=0) h fun x hx=>⟨Nat.zero_le _,hl x hx⟩
end Bk
namespace Bk
noncomputable def bcs:Rl→List Nat
 | .ei l=>l.map (·.1)
 | .su b _=>b
 | .im b none=>b
 | .im b (some x)=>b++[x]
end Bk
namespace Bk
open PySem L2 M
end Bk
namespace M
open PySem PySem.Spec PyProof.Rows L2
section
variable {K:W.Frag}
section
variable {X:Cx} {pos:Pos}
noncomputable def sAsg(f:Ro→Option D)(gt:D→Ro→Option Ro):Ro→Option Out:=fun ρ=>(f ρ).bind fun d=>(gt d ρ).map Out.nx
theorem y5a{tg e:Expr}{f:Ro→Option D}{gt:D→Ro→Option Ro}(hg:MG X tg gt)(he:ME X e f)(hs:swapsWithSole [tg] e pos.line X.env=pure false:=by rfl)(hw:swappedStores [tg] e X.env=pure none:=by rfl)
 (h1:(assignEach [tg] X.env).map (·.2)=[assign tg X.env]:=by rfl):MS X (.Assign [tg] e pos) (sAsg f gt):=PS.imp (Yy5 he hg hs hw h1) fun F σ H hx_=>by
 obtain⟨ρ,out,H0,G0,G,e,s,h⟩:=hx_
 obtain⟨d,h1,e⟩:=qa e
 obtain⟨ρ',h2,rfl⟩:=qb e
 exact tOf.at h1 s fun v H1 G1 g1 r1 s1=>⟨d,ρ,ρ',_,_,G1,h2,s1,r1,fun σ' s'=>h _ H1 G1 s'⟩
@[simp] theorem ap_sAsg{ρ:Ro}(f:Ro→Option D)(gt:D→Ro→Option Ro):sAsg f gt ρ=(f ρ).bind fun d=>(gt d ρ).map Out.nx:=nr1 rfl
theorem y14{tg e:Expr}{f:Ro→Option D}{gt:D→Ro→Option Ro}(hg:ZG X tg gt)(he:ZE X e f)(hs:swapsWithSole [tg] e pos.line X.env=pure false:=by rfl)(hw:swappedStores [tg] e X.env=pure none:=by rfl)
 (h1:(assignEach [tg] X.env).map (·.2)=[assign tg X.env]:=by rfl):ZS X (.Assign [tg] e pos) (sAsg f gt):=⟨y5a hg.un he.un hs hw h1⟩
end
end
section
section
variable {prog:Program} {w:World} {A:Around} {E:Value→Shared→Prop}
theorem Ymn{it t:Addr}{items:Array Value}(hne:t≠it):∀(n i:Nat) (s:Shared) (Q:List Value→Shared→Prop),s.heap.IsListIter it t i→s.heap.IsList t items→i+n≤items.size→
 (∀h':Heap,h'.IsListIter it t (i+n)→Heap.SameBut it s.heap h'→Q ((items.toList.drop i).take n) { s with heap:=h' })→wpAny (model prog w) A (draw (.ref it) n) Q E s
 | 0,i,s,Q,hit,_,_,hQ=>by
   show wpAny _ _ (pure []) Q E s
   exact wpAny_pure (by simpa using hQ s.heap hit (Heap.SameBut.refl ..))
 | n+1,i,s,Q,hit,ht,hle,hQ=>by
   have hlt:i < items.size:=by omega
   show wpAny _ _ (pyNext (.ref it) >>= _) Q E s
   refine wpAny_bind (wpAny_pyNext_list_item hit ht (x:=items[i]) (by simp[hlt]) fun h₁ hit₁ hs₁=>?_)
   refine wpAny_bind (wpAny_holding (Ymn hne n (i+1) _ _ hit₁ (ht.extBut hs₁.extBut hne) (by omega) fun h₂ hit₂ hs₂=>wpAny_pure ?_))
   have hd:items.toList.drop i=items[i]::items.toList.drop (i+1):=by simp[List.drop_eq_getElem_cons,hlt]
   have:=hQ h₂ (by rw[show i+(n+1)=i+1+n by omega];exact hit₂) (hs₁.trans hs₂)
   rw[hd,List.take_succ_cons]at this
   exact this
theorem Yiy{s:Shared}{t:Addr}{items:Array Value}{Q:List Value→Shared→Prop}(hh:A.handled=none)(ht:s.heap.IsList t items)
 (hQ:∀h',Heap.ExtBut s.heap.objs.size s.heap h'→Q items.toList { s with heap:=h' }):wpAny (model prog w) A (unpackItems (.ref t) items.size none) Q E s:=by
 have hlt:t≠s.heap.objs.size:=by obtain⟨o,ho,_⟩:=ht;exact ql (qk ho)
 unfold unpackItems
 refine wpAny_bind ?_
 ·unfold notIterableAtAll
  refine wpAny_bind (wpAny_specialOf ht.typeIs slot_list_iter.lookup ?_)
  refine wpAny_pure ?_
  simp only[Ql,if_false]
  refine wpAny_bind (wpAny_holding (wpAny_pyIter_list ht ?_))
  refine wpAny_bind (wpAny_holding (Ymn hlt items.size 0 _ _ ⟨_,qo _ rfl,rfl,rfl⟩ (ht.push _) (by omega) fun h₁ hit₁ hs₁=>?_))
  have hall:List.take items.size (List.drop 0 items.toList)=items.toList:=by
   rw[List.drop_zero];exact List.take_of_length_le (by simp)
  rw[hall]
  rw[if_neg (by simp)]
  have ht₁:h₁.IsList t items:=(ht.push _).extBut hs₁.extBut hlt
  refine wpAny_bind (wpAny_holding (wpAny_pyNext_list_end hh hit₁ ht₁ (by simp) fun h₂ he₂=>?_))
  simp only[Option.isSome_none,Ql,if_false]
  refine wpAny_pure (hQ h₂ fun b o hb e=>he₂ b o hb (hs₁.extBut b o hb (qd _ e)))
theorem Yia{s:Shared}{env:Env}{elts:List Expr}{x1}{pos:Pos}{t:Addr}{items:Array Value}{Q:Unit→Shared→Prop}(hh:A.handled=none)(ht:s.heap.IsList t items)
 (hn:(assignEach elts env).length=items.size) (hstar:(assignEach elts env).findIdx? (·.1)=none)
 (h:∀h',Heap.ExtBut s.heap.objs.size s.heap h'→wpAny (model prog w) A (assignInOrder ((assignEach elts env).map (·.2)) items.toList) Q E { s with heap:=h' }) :
 wpAny (model prog w) A (assign (.Tuple elts x1 pos) env (.ref t)) Q E s:=by
 rw[assign_Tuple]
 refine wpAny_bind (wpAny_standAt ?_)
 unfold unpack
 rw[hn,hstar]
 exact wpAny_bind (wpAny_holding (Yiy hh ht h))
end
section
variable {X:Cx} {pos:Pos}
noncomputable def y60(K:W.Frag)(n:Nat)(t:TGs):TG:=fun v σ H Q=>∃a xs,v=.ref a∧SqL K H a xs∧xs.length=n∧t xs σ H Q
theorem y15{es:List Expr}{k:Nat}{t:TGs}{n:Nat}(hc:X.calm=true)(h:PGs X es t)
 (hn:(assignEach es X.env).length=n:=by rfl) (hst:(assignEach es X.env).findIdx? (·.1)=none:=by rfl):PG X (.Tuple es k pos) (y60 X.K n t):=by
 intro pins s σ H v u Q I r hw
 obtain⟨a,xs,e1,hq,hl,hw⟩:=hw
 subst e1
 cases r
 obtain⟨its,rv,⟨o,nn,ho,hcl,_,hd⟩,hz⟩:=I.list hq
 refine Yia (I.ok.hd hc) ⟨o,ho,hcl,nn,hd⟩ (by simp[hn,←hl,rv.length]) hst fun h' hx=>?_
 have I1:Inv X pins σ H { s with heap:=h' }:=I.kept (t':=s.toks) fun b o e=>hx b o (ql (qk e)) e
 exact h pins _ σ H xs _ Q I1 (by simpa using rv) hw
noncomputable def Ysw(i j k:Nat):D→Ro→Option Ro:=fun d ρ=>match d with
 | .lst [a,b,c]=>some (((ρ.set i (some (.sh a))).set j (some (.sh b))).set k (some (.sh c)))
 | _=>none
theorem Yyq(i j k:Nat){x y z:Str}{px py pz:Pos}{n:Nat}(hc:X.calm=true)(hN:X.N.Nodup)(hi:X.N[i]?=some x:=by rfl)(hj:X.N[j]?=some y:=by rfl)(hk:X.N[k]?=some z:=by rfl)(hx:Loc X.env.scope x:=by first | exact Or.inl rfl | exact Or.inr rfl)(hy:Loc X.env.scope y:=by first | exact Or.inl rfl | exact Or.inr rfl)(hz:Loc X.env.scope z:=by first | exact Or.inl rfl | exact Or.inr rfl)
 (hf:X.fn x=true∨X.env.scope.names.lookup x=some .local:=by first | exact .inl rfl | exact .inr rfl) (hf2:X.fn y=true∨X.env.scope.names.lookup y=some .local:=by first | exact .inl rfl | exact .inr rfl) (hf3:X.fn z=true∨X.env.scope.names.lookup z=some .local:=by first | exact .inl rfl | exact .inr rfl):MG X (.Tuple [.Name x px,.Name y py,.Name z pz] n pos) (Ysw i j k):=
 PG.imp (y15 (n:=3) hc (Yht (Yim hN hi hx hf) (Yht (Yim hN hj hy hf2) (Yht (Yim hN hk hz hf3) Yuh)))) fun v σ H Q hx_=>by
  obtain⟨d,ρ,ρ',H0,G0,G,e,s,r,h⟩:=hx_
  match d,e,r with
  | .lst [a,b,c],e,r=>
    cases e
    rw[Rp]at r
    obtain⟨p,xs,rfl,g,rl⟩:=r
    rw[RpL]at rl
    obtain⟨u,us,rfl,ru,rl⟩:=rl
    rw[RpL]at rl
    obtain⟨w,ws,rfl,rw',rl⟩:=rl
    obtain⟨t,rfl,rt⟩:=Yhb rl
    exact⟨p,[u,w,t],rfl,.inl (Ybr s.seen g),rfl,u,[w,t],rfl,w,[t],rfl,t,[],rfl,rfl,h _ (((s.set_sh i ru).set_sh j rw').set_sh k rt)⟩
@[simp] theorem ap_gTripL{ρ:Ro}(i j k:Nat)(a b c:D):Ysw i j k (.lst [a,b,c]) ρ=some (((ρ.set i (some (.sh a))).set j (some (.sh b))).set k (some (.sh c))):=nr1 rfl
theorem Yws(i j k:Nat){x y z:Str}{px py pz:Pos}{n:Nat}(hc:X.calm=true)(hN:X.N.Nodup)(hi:X.N[i]?=some x:=by rfl)(hj:X.N[j]?=some y:=by rfl)(hk:X.N[k]?=some z:=by rfl)(hx:Loc X.env.scope x:=by first | exact Or.inl rfl | exact Or.inr rfl)(hy:Loc X.env.scope y:=by first | exact Or.inl rfl | exact Or.inr rfl)(hz:Loc X.env.scope z:=by first | exact Or.inl rfl | exact Or.inr rfl)
 (hf:X.fn x=true∨X.env.scope.names.lookup x=some .local:=by first | exact .inl rfl | exact .inr rfl) (hf2:X.fn y=true∨X.env.scope.names.lookup y=some .local:=by first | exact .inl rfl | exact .inr rfl) (hf3:X.fn z=true∨X.env.scope.names.lookup z=some .local:=by first | exact .inl rfl | exact .inr rfl):ZG X (.Tuple [.Name x px,.Name y py,.Name z pz] n pos) (Ysw i j k):=
 ⟨Yyq i j k hc hN hi hj hk hx hy hz hf hf2 hf3⟩
end
end
section
variable {K:W.Frag}
section
variable {prog:Program} {w:World} {A:Around} {E:Value→Shared→Prop} {s:Shared}
theorem Yt0{l:Addr}{vs:List Value}{ns:List Int}{k:Int}{t:Tok}{Q:Value→Shared→Prop}(hl:s.heap.IsList l vs.toArray)(hi:IntsAre vs ns)
 (hb:ns.length≤2 ^ 24) (hk:k∈ns) (h:Q (.int (ns.idxOf k:Nat) s.toks) { s with toks:=s.toks+1 }) :
 wpAny (model prog w) A (call (.builtin "list.index") [.ref l,.int k t]) Q E s:=by
 obtain⟨⟨cls,dd,data,sl⟩,ho,hc,n,hd⟩:=id hl
 simp only at hc hd
 subst hc hd
 have hlen:=hi.length
 have hj:ns.idxOf k < ns.length:=List.idxOf_lt_length_iff.mpr hk
 refine call_meets PySem.F.slot_list_index ⟨_,ho,rfl⟩ PySem.F.entry_list_index (PySem.F.args_list_index_2 _ _)
  (PySem.SeqAt.list_indexAt l vs.toArray n dd sl (.int k t) (isInt k) (ns.idxOf k) (by simpa [hlen]using hj) (by omega) ?_ ?_) ⟨ho,fun y hy=>(eq_isInt k t hi y (by simpa using hy)).at _ _,h⟩
 ·show isInt k vs[ns.idxOf k]=true
  rw[isInt_at k hi _ (by omega) hj]
  simpa using List.getElem_idxOf hj
 ·intro j hjs hlt
  show isInt k vs[j]=false
  rw[isInt_at k hi j (by simpa using hjs) (by omega)]
  exact ne_of_lt_idxOf hlt _
end
section
variable {X:Cx} {a e:Expr} {fa f:Ro→Option D} {pos:Pos}
noncomputable def rIdx(K:W.Frag):V→List V→Hp→VK→Prop:=fun x vs H Q=>∃(l:Addr) (ns:List Int) (k:Int),x=.ref l∧vs=[.int k]∧SqL K H l (ns.map V.int)∧k∈ns∧Q (.int (ns.idxOf k:Nat)) H
theorem Yyr:MtM X "list.index" (rIdx X.K):=by
 intro pins s σ H x vs v us Q I rx rv h
 obtain⟨l,ns,k,rfl,rfl,hH,hk,q⟩:=h
 cases rx
 obtain⟨u,rfl,⟨t,rfl⟩⟩:=Yhu rv
 obtain⟨its,r,pl,hz⟩:=I.list hH
 exact Yt0 pl.isList (Ygl r) (by rw[qe]at hz;exact hz) hk ⟨.int (ns.idxOf k:Nat),H,I.tok _,⟨_,rfl⟩,q⟩
noncomputable def idxD:D→D→Option D
 | .lst l,.int k=>(Ycu l).bind fun ns=>if k∈ns then some (.int (ns.idxOf k:Nat))else none
 | _,_=>none
theorem Yys{apos cpos:Pos}(ha:MC X a fa)(he:ME X e f)(hs:starEach [e] X.env=[(false,eval e X.env)]:=by rfl)
 (hfew:((backTo cpos (starEach [e] X.env)).all (fun x=>!x.1)&&(backToKw cpos (keywordEach [] X.env)).all (fun x=>x.1.isSome)&&decide ([e].length+([]:List Keyword).length+(if ([]:List Keyword).isEmpty then 0 else 1) < 30))=true:=by rfl)
 (hline:(apos.endLine==cpos.line)=true:=by rfl) (hbase:attributeBase a "index" X.env (eval a X.env)=eval a X.env:=by rfl) :
 ME X (.Call (.Attribute a "index" apos) [e] [] cpos) (b2 fa f idxD):=
 PE.imp (y3j PySem.F.plainAttrs_list PySem.F.slot_list_index PySem.F.type_list_index Yyr ha (Yg7 he Yme hs) hbase hfew hline hs rfl) fun σ H Q hx_=>by
  obtain⟨ρ,d,H0,G0,G,e,s,h⟩:=hx_
  obtain⟨dx,h1,e⟩:=qa e
  obtain⟨dy,h2,h3⟩:=qa e
  cases dx<;>try cases h3
  rename_i l
  cases dy<;>try cases h3
  rename_i k
  obtain⟨ns,h4,h5⟩:=qa h3
  by_cases hk:k∈ns
  ·rw[if_pos hk]at h5
   cases h5
   have:=Ye4 h4
   subst this
   refine tCof.at h1 s fun v H1 G1 g1 r1 s1=>?_
   rw[Ct]at r1
   obtain⟨p,xs,rfl,g,rl⟩:=r1
   have:=Yh0 rl
   subst this
   refine⟨.inl ⟨rfl,_,.inl g⟩,tOf.at h2 s1 fun u H2 G2 g2 r2 s2=>?_⟩
   rw[Rp]at r2
   subst r2
   refine⟨p,ns,k,rfl,rfl,.inl (g.imp (g2.h _ _) fun q=>q.imp fun o q=>g2.h _ _ q),hk,?_⟩
   exact h _ H2 G2 (g1.trans g2) (by rw[Rp])
  ·rw[if_neg hk]at h5
   cases h5
theorem Ywt{apos cpos:Pos}(ha:ZC X a fa)(he:ZE X e f)(hs:starEach [e] X.env=[(false,eval e X.env)]:=by rfl)
 (hfew:((backTo cpos (starEach [e] X.env)).all (fun x=>!x.1)&&(backToKw cpos (keywordEach [] X.env)).all (fun x=>x.1.isSome)&&decide ([e].length+([]:List Keyword).length+(if ([]:List Keyword).isEmpty then 0 else 1) < 30))=true:=by rfl)
 (hline:(apos.endLine==cpos.line)=true:=by rfl) (hbase:attributeBase a "index" X.env (eval a X.env)=eval a X.env:=by rfl) :
 ZE X (.Call (.Attribute a "index" apos) [e] [] cpos) (b2 fa f idxD):=⟨Yys ha.un he.un hs hfew hline hbase⟩
noncomputable def orD(f g:Ro→Option D):Ro→Option D:=fun ρ=>(f ρ).or (g ρ)
theorem y5b{f g:Ro→Option D}(h1:ME X e f)(h2:ME X e g):ME X e (orD f g):=fun pins s σ H Q I h=>by
 obtain⟨ρ,d,H0,G0,G,e0,s0,q⟩:=h
 unfold orD at e0
 cases hf:f ρ with
 | some d'=>
   rw[hf]at e0
   cases e0
   exact h1 pins s σ H Q I ⟨ρ,_,H0,G0,G,hf,s0,q⟩
 | none=>
   rw[hf]at e0
   exact h2 pins s σ H Q I ⟨ρ,d,H0,G0,G,e0,s0,q⟩
theorem y16{f g:Ro→Option D}(h1:ZE X e f)(h2:ZE X e g):ZE X e (orD f g):=⟨y5b h1.un h2.un⟩
@[simp] theorem ap_orD{ρ:Ro}(f g:Ro→Option D):orD f g ρ=(f ρ).or (g ρ):=nr1 rfl
@[simp] theorem Yyt(l:List Int)(k:Int):idxD (.lst (l.map D.int)) (.int k)=if k∈l then some (.int (l.idxOf k:Nat))else none:=by
 show(Ycu (l.map D.int)).bind _=_
 rw[Ykq]
 rfl
end
end
end M
noncomputable section
namespace Lw
open PySem PySem.Spec PyProof.Rows L2 M
def top(i:Nat):Stmt:=PySem.Challenge.pw_duskbook_k46_ifs_won.main.body.getD i (.Pass ⟨0,0,0,0⟩)
structure Bl(K:W.Frag)(w:World)(mg:Str→Option Value):Prop where
 Len:mg "len"=none
 Range:mg "range"=none
 List:mg "list"=none
 Tuple:mg "tuple"=none
 Int:mg "int"=none
 Bool:mg "bool"=none
 Str:mg "str"=none
 Sorted:mg "sorted"=none
 Any:mg "any"=none
 All:mg "all"=none
 Isinstance:mg "isinstance"=none
 Enumerate:mg "enumerate"=none
 Set:mg "set"=none
 Min:mg "min"=none
 Dict:mg "dict"=none
section
variable {P:Program} {w:World} {K:W.Frag} {mg:Str→Option Value} {base:Heap}
abbrev Yck:Stmt:=top 1
theorem Ykr:FnScope ["rule","evening"] ["rule","evening"] (defScope Yck):=⟨rfl,rfl,rfl,by decide +kernel,rfl,by decide +kernel,by decide +kernel⟩
theorem cs_either_holds_0:CompSc ["rule","evening"] (defScope Yck) ["saying","evening"] [none,some 1] (fsc [(".0",.local),("saying",.local),("evening",.free)]):=Yy (by decide +kernel)
def Ycx:Ro→Option D:=(mB (b2 (b2 (getC 1) (b2 (getC 0) (kD (.int 0)) ixD) ixD) (b2 (getC 0) (kD (.int 1)) ixD) (eqM false)))
def Yg1:Ro→Option Out:=(sRet (cC (Yh (lF (Ybs (b1 (getV 0) Yr) [none,some 1] (gSet 0) tY (Ycx))) aNil) anyC))
def Yb5:List D→Option D:=runB 2 2 Yg1
theorem Yks(bl:Bl K w mg)  {a:Addr} {fd:FuncData} (F:Fun K "either_holds" "either_holds" Yck a fd) (hm:mg "either_holds"=some (.ref a)):Okf P w K mg base 1 2 "either_holds" ["rule","evening"] Yb5:=by
 refine Yak F (F.binds fun _ _ _ _ _ _ us hl=>by obtain⟨_,_,rfl⟩:=len2 hl;rfl) hm (Ys (k:=0) F Ykr rfl rfl fun cdv A outer s H E hr=>?_)
 exact(Yn (Yt (Yae (Yo9 rfl) Yvw rfl bl.Any boot_any (Yp (Yd (Yz (Yan cs_either_holds_0 rfl (Yau (Yg 0)) (fun _ _ _ _ _=>(Yab 0 cs_either_holds_0.nd)) (fun _ _ _ _ _=>Ya8) (fun _ _ _ _ _=>(Yem hr.units (Yd (Yj (Ye 1) (Yd (Yj (Ye 0) (Yd Yi))))) (Yd (Yj (Ye 0) (Yd Yi))))) (Yar (i:=0) rfl)))) Yu))))
abbrev Yeo:Stmt:=top 2
theorem sc_sum_holds:FnScope ["rule","evening","lit_ones"] ["rule","evening"] (defScope Yeo):=⟨rfl,rfl,rfl,by decide +kernel,rfl,by decide +kernel,by decide +kernel⟩
theorem cs_sum_holds_0:CompSc ["rule","evening","lit_ones"] (defScope Yeo) ["beacon","evening"] [none,some 1] (fsc [(".0",.local),("beacon",.local),("evening",.free)]):=Yy (by decide +kernel)
def Yet:Ro→Option Bool:=(b1 (b2 (getC 1) (getC 0) ixD) truD)
def Yeu:Ro→Option D:=(getV 0)
def Ykt:Ro→Option Out:=(sSeq (sOwn 2 (Ybs (b1 (b2 (getC 0) (kD (.int 0)) ixD) Yr) [none,some 1] (gSet 0) (Yet) (Yeu))) (sRet (mB (b2 (mB (b2 (b2 (cC (Yh (getC 2) aNil) lenC) (kD (.int 2)) modI) (kD (.int 1)) (eqM false))) (b2 (getC 0) (kD (.int 1)) ixD) (eqM false)))))
def Yd3:List D→Option D:=runB 2 3 Ykt
theorem Ypn(bl:Bl K w mg)  {a:Addr} {fd:FuncData} (F:Fun K "sum_holds" "sum_holds" Yeo a fd) (hm:mg "sum_holds"=some (.ref a)):Okf P w K mg base 1 2 "sum_holds" ["rule","evening"] Yd3:=by
 refine Yak F (F.binds fun _ _ _ _ _ _ us hl=>by obtain⟨_,_,rfl⟩:=len2 hl;rfl) hm (Ys (k:=0) F sc_sum_holds rfl rfl fun cdv A outer s H E hr=>?_)
 exact(Yk (Yh5 2 sc_sum_holds.nd cs_sum_holds_0 rfl (Yau (Yj (Ye 0) (Yd Yi))) (fun _ _ _ _ _=>(Yab 0 cs_sum_holds_0.nd)) (fun _ _ _ _ _=>(Yen (Ybt (Yd (Yj (Ye 1) (Ye 0)))))) (fun _ _ _ _ _=>(Yg 0)) (Yar (i:=0) rfl)) (Yn (Yt (Yem hr.units (Yd (Yem hr.units (Yd (Ybj (Yd (Yae Yaj Ych rfl bl.Len PySem.boot_len (Yp (Ye 2) Yu))) (Yd Yi))) (Yd Yi))) (Yd (Yj (Ye 0) (Yd Yi)))))))
abbrev Yfl:Stmt:=top 3
theorem Yre:FnScope ["rule","evening","lit"] ["rule","evening","lit"] (defScope Yfl):=⟨rfl,rfl,rfl,by decide +kernel,rfl,by decide +kernel,by decide +kernel⟩
theorem cs_if_holds_0:CompSc ["rule","evening","lit"] (defScope Yfl) ["beacon","evening","lit"] [none,some 1,some 2] (fsc [(".0",.local),("beacon",.local),("evening",.free),("lit",.free)]):=Yy (by decide +kernel)
def Yfm:Ro→Option D:=(mB (b2 (b2 (getC 1) (getC 0) ixD) (getC 2) (eqM true)))
def Ygn:Ro→Option Out:=(sSeq (sIf (b1 (cC (Yh (lF (Ybs (b1 (b2 (getC 0) (kD (.int 0)) ixD) Yr) [none,some 1,some 2] (gSet 0) tY (Yfm))) aNil) anyC) truD) (sRet (kD (.bl true))) sNil) (sRet (andV (mB (b2 (b2 (getC 0) (kD (.int 1)) ixD) (kD .non) (isN true))) (mB (b2 (b2 (getC 1) (b2 (getC 0) (kD (.int 1)) ixD) ixD) (getC 2) (eqM false))))))
def Ye6:List D→Option D:=runB 3 3 Ygn
theorem Yrf(bl:Bl K w mg)  {a:Addr} {fd:FuncData} (F:Fun K "if_holds" "if_holds" Yfl a fd) (hm:mg "if_holds"=some (.ref a)):Okf P w K mg base 1 3 "if_holds" ["rule","evening","lit"] Ye6:=by
 refine Yak F (F.binds fun _ _ _ _ _ _ us hl=>by obtain⟨_,_,_,rfl⟩:=len3 hl;rfl) hm (Ys (k:=0) F Yre rfl rfl fun cdv A outer s H E hr=>?_)
 exact(Yk (Yal (Ybt (Yd (Yae (Yo9 rfl) Yvw rfl bl.Any boot_any (Yp (Yd (Yz (Yan cs_if_holds_0 rfl (Yau (Yj (Ye 0) (Yd Yi))) (fun _ _ _ _ _=>(Yab 0 cs_if_holds_0.nd)) (fun _ _ _ _ _=>Ya8) (fun _ _ _ _ _=>(y42 hr.units (Yd (Yj (Ye 1) (Ye 0))) (Ye 2))) (Yar (i:=0) rfl)))) Yu)))) (Yn (Yt Yde)) Yaa) (Yn (Yt (Yhg (Yst (Yd (Yj (Ye 0) (Yd Yi))) (Yd Yb3)) (Yfg (Yem hr.units (Yd (Yj (Ye 1) (Yd (Yj (Ye 0) (Yd Yi))))) (Ye 2)))))))
abbrev Yfn:Stmt:=top 4
theorem Ynn:FnScope ["kind","rule","evening"] ["kind","rule","evening"] (defScope Yfn):=⟨rfl,rfl,rfl,by decide +kernel,rfl,by decide +kernel,by decide +kernel⟩
@[simp] def Ylr:Ro→Option Out:=(sRet (cC (Yh (getV 1) (Yh (getV 2) (Yh (mB (b2 (getC 0) (kD (.str "ifs")) (eqM false))) aNil))) Ye6))
@[simp] def Yls:Ro→Option Out:=(sSeq (sIf (b2 (getC 0) (kD (.str "sums")) (eqM false)) (sRet (cC (Yh (getV 1) (Yh (getV 2) aNil)) Yd3)) sNil) Ylr)
def Ydf:Ro→Option Out:=(sSeq (sIf (b2 (getC 0) (kD (.str "eithers")) (eqM false)) (sRet (cC (Yh (getV 1) (Yh (getV 2) aNil)) Yb5)) sNil) Yls)
def Ydg:List D→Option D:=runB 3 3 Ydf
theorem Yno(bl:Bl K w mg)(zu:Okf P w K mg base 1 2 "either_holds" ["rule","evening"] Yb5)(ubu:Okf P w K mg base 1 2 "sum_holds" ["rule","evening"] Yd3)(ucs:Okf P w K mg base 1 3 "if_holds" ["rule","evening","lit"] Ye6){a:Addr}{fd:FuncData}(F:Fun K "rule_holds" "rule_holds" Yfn a fd)(hm:mg "rule_holds"=some (.ref a)):Okf P w K mg base 2 3 "rule_holds" ["kind","rule","evening"] Ydg:=by
 refine Yak F (F.binds fun _ _ _ _ _ _ us hl=>by obtain⟨_,_,_,rfl⟩:=len3 hl;rfl) hm (Ys (k:=1) F Ynn rfl rfl fun cdv A outer s H E hr=>?_)
 exact(Yk (Yal (Ybc hr.units (Ye 0) (Yd Yw)) (Yn (Yt (Ym zu hr rfl (Yb (Yg 1) (Yb (Yg 2) Yl)) (Yc (Yc (fun _ _ h=>Yo h)))))) Yaa) (Yk (Yal (Ybc hr.units (Ye 0) (Yd Yw)) (Yn (Yt (Ym ubu hr rfl (Yb (Yg 1) (Yb (Yg 2) Yl)) (Yc (Yc (fun _ _ h=>Yo h)))))) Yaa) (Yn (Yt (Ym ucs hr rfl (Yb (Yg 1) (Yb (Yg 2) (Yb (Yem hr.units (Ye 0) (Yd Yw)) Yl))) (Yc (Yc (Yc (fun _ _ h=>Yo h)))))))))
abbrev Ycl:Stmt:=top 5
theorem Yku:FnScope ["book","evening"] ["book","evening"] (defScope Ycl):=⟨rfl,rfl,rfl,by decide +kernel,rfl,by decide +kernel,by decide +kernel⟩
theorem cs_broken_rules_0:CompSc ["book","evening"] (defScope Ycl) ["place","rule","book","evening"] [none,none,some 0,some 1] (fsc [(".0",.local),("place",.local),("rule",.local),("rule_holds",.globalImplicit),("book",.free),("evening",.free)]):=Yy (by decide +kernel)
def Ycy:Ro→Option Bool:=(notT (b1 (cC (Yh (b2 (getC 2) (kD (.int 0)) ixD) (Yh (getV 1) (Yh (getV 3) aNil))) Ydg) truD))
def Ycz:Ro→Option D:=(getV 0)
def Yg2:Ro→Option Out:=(sRet (lF (Ybs (b1 (b2 (getC 0) (kD (.int 1)) ixD) Ylq) [none,none,some 0,some 1] (Yj9 0 1) (Ycy) (Ycz))))
def Yb6:List D→Option D:=runB 2 2 Yg2
theorem Ykv(bl:Bl K w mg)(ua1:Okf P w K mg base 2 3 "rule_holds" ["kind","rule","evening"] Ydg){a:Addr}{fd:FuncData}(F:Fun K "broken_rules" "broken_rules" Ycl a fd)(hm:mg "broken_rules"=some (.ref a)):Okf P w K mg base 3 2 "broken_rules" ["book","evening"] Yb6:=by
 refine Yak F (F.binds fun _ _ _ _ _ _ us hl=>by obtain⟨_,_,rfl⟩:=len2 hl;rfl) hm (Ys (k:=2) F Yku rfl rfl fun cdv A outer s H E hr=>?_)
 exact(Yn (Yt (Yz (Yan cs_broken_rules_0 rfl (Yfi rfl bl.Enumerate (Yj (Ye 0) (Yd Yi))) (fun _ _ _ _ _=>(Ynj 0 1 rfl cs_broken_rules_0.nd)) (fun _ _ _ _ _=>(Yen (Ycw (Ybt (Yd (Ym ua1 hr rfl (Yb (Yj (Ye 2) (Yd Yi)) (Yb (Yg 1) (Yb (Yg 3) Yl))) (Yc (Yc (Yc (fun _ _ h=>Yo h)))))))))) (fun _ _ _ _ _=>(Yg 0)) (Yxz (i:=0) (k:=1) rfl rfl)))))
abbrev Ynp:Stmt:=top 6
theorem Yyu:FnScope ["book","evening"] ["book","evening"] (defScope Ynp):=⟨rfl,rfl,rfl,by decide +kernel,rfl,by decide +kernel,by decide +kernel⟩
def Ywu:Ro→Option Out:=(sRet (mB (b2 (cC (Yh (cC (Yh (getV 0) (Yh (getV 1) aNil)) Yb6) aNil) lenC) (kD (.int 0)) (eqM false))))
def Ykw:List D→Option D:=runB 2 2 Ywu
theorem Yyv(bl:Bl K w mg)(zv:Okf P w K mg base 3 2 "broken_rules" ["book","evening"] Yb6){a:Addr}{fd:FuncData}(F:Fun K "holds" "holds" Ynp a fd)(hm:mg "holds"=some (.ref a)):Okf P w K mg base 4 2 "holds" ["book","evening"] Ykw:=by
 refine Yak F (F.binds fun _ _ _ _ _ _ us hl=>by obtain⟨_,_,rfl⟩:=len2 hl;rfl) hm (Ys (k:=3) F Yyu rfl rfl fun cdv A outer s H E hr=>?_)
 exact(Yn (Yt (Yem hr.units (Yd (Yae Yaj Ych rfl bl.Len PySem.boot_len (Yp (Yd (Ym zv hr rfl (Yb (Yg 0) (Yb (Yg 1) Yl)) (Yc (Yc (fun _ _ h=>Yo h))))) Yu))) (Yd Yi))))
abbrev Ygo:Stmt:=top 9
theorem Yt1:FnScope ["beacons","beacon"] ["beacons","beacon"] (defScope Ygo):=⟨rfl,rfl,rfl,by decide +kernel,rfl,by decide +kernel,by decide +kernel⟩
theorem cs_without_0:CompSc ["beacons","beacon"] (defScope Ygo) ["other","beacon"] [none,some 1] (fsc [(".0",.local),("other",.local),("beacon",.free)]):=Yy (by decide +kernel)
def Ydh:Ro→Option Bool:=(b2 (getC 0) (getC 1) (eqM true))
def Ydi:Ro→Option D:=(getV 0)
def Ykx:Ro→Option Out:=(sRet (cC (Yh (lF (Ybs (b1 (getV 0) Yr) [none,some 1] (gSet 0) (Ydh) (Ydi))) aNil) tupC))
def Ybw:List D→Option D:=runB 2 2 Ykx
theorem Yt2(bl:Bl K w mg)  {a:Addr} {fd:FuncData} (F:Fun K "without" "without" Ygo a fd) (hm:mg "without"=some (.ref a)):Okf P w K mg base 1 2 "without" ["beacons","beacon"] Ybw:=by
 refine Yak F (F.binds fun _ _ _ _ _ _ us hl=>by obtain⟨_,_,rfl⟩:=len2 hl;rfl) hm (Ys (k:=0) F Yt1 rfl rfl fun cdv A outer s H E hr=>?_)
 exact(Yn (Yt (Yas Yag Ycj rfl bl.Tuple boot_tuple (Yp (Yd (Yz (Yan cs_without_0 rfl (Yau (Yg 0)) (fun _ _ _ _ _=>(Yab 0 cs_without_0.nd)) (fun _ _ _ _ _=>(Yen (Ymm hr.units (Ye 0) (Ye 1)))) (fun _ _ _ _ _=>(Yg 0)) (Yar (i:=0) rfl)))) Yu))))
abbrev Yhj:Stmt:=top 11
theorem Yrg:FnScope ["book","place"] ["book","place"] (defScope Yhj):=⟨rfl,rfl,rfl,by decide +kernel,rfl,by decide +kernel,by decide +kernel⟩
def Ymo:Ro→Option Out:=(sRet (mB (ch3 (kD (.int 0)) (getC 1) (cC (Yh (b2 (getC 0) (kD (.int 1)) ixD) aNil) lenC) leI ltI)))
def Yc0:List D→Option D:=runB 2 2 Ymo
theorem Yrh(bl:Bl K w mg)  {a:Addr} {fd:FuncData} (F:Fun K "is_place" "is_place" Yhj a fd) (hm:mg "is_place"=some (.ref a)):Okf P w K mg base 1 2 "is_place" ["book","place"] Yc0:=by
 refine Yak F (F.binds fun _ _ _ _ _ _ us hl=>by obtain⟨_,_,rfl⟩:=len2 hl;rfl) hm (Ys (k:=0) F Yrg rfl rfl fun cdv A outer s H E hr=>?_)
 exact(Yn (Yt (Ywh y56 Ym9 y24 Ym9 (Yd Yi) (Ye 1) (Yd (Yae Yaj Ych rfl bl.Len PySem.boot_len (Yp (Yd (Yj (Ye 0) (Yd Yi))) Yu))))))
abbrev Yca:Stmt:=top 12
theorem Yji:FnScope ["rule","known"] ["rule","known"] (defScope Yca):=⟨rfl,rfl,rfl,by decide +kernel,rfl,by decide +kernel,by decide +kernel⟩
theorem cs_body_is_known_0:CompSc ["rule","known"] (defScope Yca) ["beacon","known"] [none,some 1] (fsc [(".0",.local),("beacon",.local),("known",.free)]):=Yy (by decide +kernel)
def Ya6:Ro→Option D:=(orD (mB (b2 (getC 0) (getC 1) (inM false))) (mB (b2 (getC 0) (getC 1) (hasI false))))
def Yd4:Ro→Option Out:=(sRet (cC (Yh (lF (Ybs (b1 (b2 (getC 0) (kD (.int 0)) ixD) Yr) [none,some 1] (gSet 0) tY (Ya6))) aNil) allC))
def Yai:List D→Option D:=runB 2 2 Yd4
theorem Yjj(bl:Bl K w mg)  {a:Addr} {fd:FuncData} (F:Fun K "body_is_known" "body_is_known" Yca a fd) (hm:mg "body_is_known"=some (.ref a)):Okf P w K mg base 1 2 "body_is_known" ["rule","known"] Yai:=by
 refine Yak F (F.binds fun _ _ _ _ _ _ us hl=>by obtain⟨_,_,rfl⟩:=len2 hl;rfl) hm (Ys (k:=0) F Yji rfl rfl fun cdv A outer s H E hr=>?_)
 exact(Yn (Yt (Yae (Ydd rfl) Yf2 rfl bl.All boot_all (Yp (Yd (Yz (Yan cs_body_is_known_0 rfl (Yau (Yj (Ye 0) (Yd Yi))) (fun _ _ _ _ _=>(Yab 0 cs_body_is_known_0.nd)) (fun _ _ _ _ _=>Ya8) (fun _ _ _ _ _=>(y16 (Ypl hr.units (Ye 0) (Ye 1)) (y1s hr.units (Ye 0) (Ye 1)))) (Yar (i:=0) rfl)))) Yu))))
abbrev Yiz:Stmt:=top 13
theorem sc_is_step:FnScope ["book","known","place","rule"] ["book","known","place"] (defScope Yiz):=⟨rfl,rfl,rfl,by decide +kernel,rfl,by decide +kernel,by decide +kernel⟩
@[simp] def Yri:Ro→Option Out:=(sRet (andV (mB (b2 (b2 (getC 3) (kD (.int 1)) ixD) (kD .non) (isN true))) (cC (Yh (getV 3) (Yh (getV 1) aNil)) Yai)))
@[simp] def Yrj:Ro→Option Out:=(sSeq (sSet 3 (b2 (b2 (getC 0) (kD (.int 1)) ixD) (getC 2) ixD)) Yri)
def Ye7:Ro→Option Out:=(sSeq (sIf (notT (b1 (cC (Yh (getV 0) (Yh (getV 2) aNil)) Yc0) truD)) (sRet (kD (.bl false))) sNil) Yrj)
def Ycm:List D→Option D:=runB 3 4 Ye7
theorem Yt3(bl:Bl K w mg)(u8:Okf P w K mg base 1 2 "is_place" ["book","place"] Yc0)(ub:Okf P w K mg base 1 2 "body_is_known" ["rule","known"] Yai){a:Addr}{fd:FuncData}(F:Fun K "is_step" "is_step" Yiz a fd)(hm:mg "is_step"=some (.ref a)):Okf P w K mg base 2 3 "is_step" ["book","known","place"] Ycm:=by
 refine Yak F (F.binds fun _ _ _ _ _ _ us hl=>by obtain⟨_,_,_,rfl⟩:=len3 hl;rfl) hm (Ys (k:=1) F sc_is_step rfl rfl fun cdv A outer s H E hr=>?_)
 exact(Yk (Yal (Ycw (Ybt (Yd (Ym u8 hr rfl (Yb (Yg 0) (Yb (Yg 2) Yl)) (Yc (Yc (fun _ _ h=>Yo h))))))) (Yn (Yt Yde)) Yaa) (Yk (Yah 3 sc_is_step.nd (Yj (Yd (Yj (Ye 0) (Yd Yi))) (Ye 2))) (Yn (Yt (Yhg (Yst (Yd (Yj (Ye 3) (Yd Yi))) (Yd Yb3)) (Yfg (Ym ub hr rfl (Yb (Yg 3) (Yb (Yg 1) Yl)) (Yc (Yc (fun _ _ h=>Yo h))))))))))
abbrev Ydm:Stmt:=top 14
theorem sc_is_derivation:FnScope ["book","facts","places","known","place"] ["book","facts","places"] (defScope Ydm):=⟨rfl,rfl,rfl,by decide +kernel,rfl,by decide +kernel,by decide +kernel⟩
def Yav:Ro→Option Out:=(sSeq (sIf (Yx5 [3] (notT (b1 (cC (Yh (getV 0) (Yh (getV 3) (Yh (getV 4) aNil))) Ycm) truD))) (sRet (kD (.bl false))) sNil) (sMut 3 (b2 (b2 (b2 (getC 0) (kD (.int 1)) ixD) (getC 4) ixD) (kD (.int 1)) ixD) appD))
@[simp] def Yi0:Ro→Option Out:=(sRet (kD (.bl true)))
@[simp] def Yi1:Ro→Option Out:=(sSeq (sFor (b1 (getV 2) Yr) (gSet 4) Yav) Yi0)
def Yd5:Ro→Option Out:=(sSeq (sOwn 3 (cF (Yh (getC 1) aNil) Yfe)) Yi1)
def Ya0:List D→Option D:=runB 3 5 Yd5
theorem Yjk(bl:Bl K w mg)(vg:Okf P w K mg base 2 3 "is_step" ["book","known","place"] Ycm){a:Addr}{fd:FuncData}(F:Fun K "is_derivation" "is_derivation" Ydm a fd)(hm:mg "is_derivation"=some (.ref a)):Okf P w K mg base 3 3 "is_derivation" ["book","facts","places"] Ya0:=by
 refine Yak F (F.binds fun _ _ _ _ _ _ us hl=>by obtain⟨_,_,_,rfl⟩:=len3 hl;rfl) hm (Ys (k:=2) F sc_is_derivation rfl rfl fun cdv A outer s H E hr=>?_)
 exact(Yk (Yfh 3 sc_is_derivation.nd (Ybe Yat Yci rfl bl.List boot_list (Yp (Ye 1) Yu))) (Yk (Yiw PassesOwn.never rfl (Yau (Yg 2)) (Yab 4 sc_is_derivation.nd) (Yk (Yal (Yyj [3] (Ycw (Ybt (Yd (Ym vg hr rfl (Yb (Yg 0) (Yb (Yg 3) (Yb (Yg 4) Yl))) (Yc (Yc (Yc (fun _ _ h=>Yo h))))))))) (Yn (Yt Yde)) Yaa) (Yn (Ydv 3 (Yj (Yd (Yj (Yd (Yj (Ye 0) (Yd Yi))) (Ye 4))) (Yd Yi)))))) (Yn (Yt Yde))))
abbrev Ygp:Stmt:=top 15
theorem sc_derived:FnScope ["book","facts","places","heads"] ["book","facts","places"] (defScope Ygp):=⟨rfl,rfl,rfl,by decide +kernel,rfl,by decide +kernel,by decide +kernel⟩
theorem cs_derived_0:CompSc ["book","facts","places","heads"] (defScope Ygp) ["place","book"] [none,some 0] (fsc [(".0",.local),("place",.local),("book",.free)]):=Yy (by decide +kernel)
def Yf9:Ro→Option D:=(b2 (b2 (b2 (getC 1) (kD (.int 1)) ixD) (getC 0) ixD) (kD (.int 1)) ixD)
def Ypo:Ro→Option Out:=(sSeq (sOwn 3 (Ybs (b1 (getV 2) Yr) [none,some 0] (gSet 0) tY (Yf9))) (sRet (lF (Yel (lF (b2 (lF (cF (Yh (getC 1) aNil) Yfe)) (getC 3) catD))))))
def Yga:List D→Option D:=runB 3 4 Ypo
theorem Yt4(bl:Bl K w mg)  {a:Addr} {fd:FuncData} (F:Fun K "derived" "derived" Ygp a fd) (hm:mg "derived"=some (.ref a)):Okf P w K mg base 1 3 "derived" ["book","facts","places"] Yga:=by
 refine Yak F (F.binds fun _ _ _ _ _ _ us hl=>by obtain⟨_,_,_,rfl⟩:=len3 hl;rfl) hm (Ys (k:=0) F sc_derived rfl rfl fun cdv A outer s H E hr=>?_)
 exact(Yk (Yh5 3 sc_derived.nd cs_derived_0 rfl (Yau (Yg 2)) (fun _ _ _ _ _=>(Yab 0 cs_derived_0.nd)) (fun _ _ _ _ _=>Ya8) (fun _ _ _ _ _=>(Yj (Yd (Yj (Yd (Yj (Ye 1) (Yd Yi))) (Ye 0))) (Yd Yi))) (Yar (i:=0) rfl)) (Yn (Yt (Yz (Yfj rfl rfl bl.Sorted rfl bl.Set (Yd (Yz (Yf6 (Yd (Yz (Ybe Yat Yci rfl bl.List boot_list (Yp (Ye 1) Yu)))) (Ye 3)))))))))
abbrev Yd6:Stmt:=top 16
theorem sc_step_to_more:FnScope ["book","known","place","rule"] ["book","known"] (defScope Yd6):=⟨rfl,rfl,rfl,by decide +kernel,rfl,by decide +kernel,by decide +kernel⟩
def Yaz:Ro→Option Out:=(sIf (andT (b2 (b2 (getC 3) (kD (.int 1)) ixD) (getC 1) (hasN true)) (b1 (cC (Yh (getV 0) (Yh (getV 1) (Yh (getV 2) aNil))) Ycm) truD)) (sRet (getV 2)) sNil)
def Yg3:Ro→Option Out:=(sSeq (sFor (b1 (b2 (getC 0) (kD (.int 1)) ixD) Ylq) (Yj9 2 3) Yaz) (sRet (kD .non)))
def Ybn:List D→Option D:=runB 2 4 Yg3
theorem Yky(bl:Bl K w mg)(vg:Okf P w K mg base 2 3 "is_step" ["book","known","place"] Ycm){a:Addr}{fd:FuncData}(F:Fun K "step_to_more" "step_to_more" Yd6 a fd)(hm:mg "step_to_more"=some (.ref a)):Okf P w K mg base 3 2 "step_to_more" ["book","known"] Ybn:=by
 refine Yak F (F.binds fun _ _ _ _ _ _ us hl=>by obtain⟨_,_,rfl⟩:=len2 hl;rfl) hm (Ys (k:=2) F sc_step_to_more rfl rfl fun cdv A outer s H E hr=>?_)
 exact(Yk (Yiw PassesOwn.never rfl (Yfi rfl bl.Enumerate (Yj (Ye 0) (Yd Yi))) (Ynj 2 3 rfl sc_step_to_more.nd) (Yn (Yal (Yd2 (Ydz (Yyl hr.units (Yd (Yj (Ye 3) (Yd Yi))) (Ye 1)) (Yc8 (Ybt (Yd (Ym vg hr rfl (Yb (Yg 0) (Yb (Yg 1) (Yb (Yg 2) Yl))) (Yc (Yc (Yc (fun _ _ h=>Yo h)))))))))) (Yn (Yt (Yg 2))) Yaa))) (Yn (Yt Yb3)))
abbrev Ybu:Stmt:=top 17
theorem sc_derived_in_full:FnScope ["book","facts","known","places","place"] ["book","facts"] (defScope Ybu):=⟨rfl,rfl,rfl,by decide +kernel,rfl,by decide +kernel,by decide +kernel⟩
theorem cs_derived_in_full_0:CompSc ["book","facts","known","places","place"] (defScope Ybu) ["fact"] [none] (fsc [(".0",.local),("fact",.local)]):=Yy (by decide +kernel)
def Ya9:Ro→Option D:=(dTup (Yh (getV 0) (Yh (kD (.bl true)) aNil)))
def Yba:Ro→Option Out:=(sSeq (sMut 3 (getV 4) appD) (sSeq (Yv3 2 (b2 (b2 (b2 (getC 0) (kD (.int 1)) ixD) (getC 4) ixD) (kD (.int 1)) ixD) (kD (.bl true))) (sSet 4 (Ytn [2] (cC (Yh (getV 0) (Yh (getV 2) aNil)) Ybn)))))
@[simp] def Yhk:Ro→Option Out:=(sRet (dTup (Yh (lF (cF (Yh (getC 2) aNil) Yki)) (Yh (cC (Yh (getC 3) aNil) tupC) aNil))))
@[simp] def Yhl:Ro→Option Out:=(sSeq (Yfx (b2 (getC 4) (kD .non) (isN true)) Yba 4000) Yhk)
@[simp] def Yhm:Ro→Option Out:=(sSeq (sSet 4 (Ytn [2] (cC (Yh (getV 0) (Yh (getV 2) aNil)) Ybn))) Yhl)
@[simp] def Yhn:Ro→Option Out:=(sSeq (sOwn 3 (dLst aNil)) Yhm)
def Ye8:Ro→Option Out:=(sSeq (sDct 2 (lF (Ybs (b1 (getV 1) Yr) [none] (gSet 0) tY (Ya9)))) Yhn)
def Yam:List D→Option D:=runB 2 5 Ye8
theorem Yib(bl:Bl K w mg)(uz:Okf P w K mg base 3 2 "step_to_more" ["book","known"] Ybn){a:Addr}{fd:FuncData}(F:Fun K "derived_in_full" "derived_in_full" Ybu a fd)(hm:mg "derived_in_full"=some (.ref a)):Okf P w K mg base 4 2 "derived_in_full" ["book","facts"] Yam:=by
 refine Yak F (F.binds fun _ _ _ _ _ _ us hl=>by obtain⟨_,_,rfl⟩:=len2 hl;rfl) hm (Ys (k:=3) F sc_derived_in_full rfl rfl fun cdv A outer s H E hr=>?_)
 exact(Yk (y1u rfl 2 sc_derived_in_full.nd rfl bl.Dict (Yd (Yz (Yan cs_derived_in_full_0 rfl (Yau (Yg 1)) (fun _ _ _ _ _=>(Yab 0 cs_derived_in_full_0.nd)) (fun _ _ _ _ _=>Ya8) (fun _ _ _ _ _=>(Ybd (Yb (Yg 0) (Yb Yde Yl)))) (Yar (i:=0) rfl))))) (Yk (Yfh 3 sc_derived_in_full.nd (Yd0 Yl)) (Yk (Yah 4 sc_derived_in_full.nd (Ysu [2] (Ym uz hr rfl (Yb (Yg 0) (Yb (Yg 2) Yl)) (Yc (Yc (fun _ _ h=>Yo h)))))) (Yk (Ywg 4000 PassesOwn.never (Yjy (Ye 4) (Yd Yb3)) (Yk (Ydv 3 (Yg 4)) (Yk (Yyk hr.units 2 (Yd (Yj (Yd (Yj (Yd (Yj (Ye 0) (Yd Yi))) (Ye 4))) (Yd Yi))) Yde) (Yn (Yah 4 sc_derived_in_full.nd (Ysu [2] (Ym uz hr rfl (Yb (Yg 0) (Yb (Yg 2) Yl)) (Yc (Yc (fun _ _ h=>Yo h)))))))))) (Yn (Yt (Ybd (Yb (Yz (Yf4 (Yq3 rfl) Ytr rfl bl.Sorted boot_sorted (Yp (Ye 2) Yu))) (Yb (Yas Yag Ycj rfl bl.Tuple boot_tuple (Yp (Ye 3) Yu)) Yl)))))))))
abbrev Ycn:Stmt:=top 30
theorem Ykz:FnScope ["hands","start","hand"] ["hands","start","hand"] (defScope Ycn):=⟨rfl,rfl,rfl,by decide +kernel,rfl,by decide +kernel,by decide +kernel⟩
theorem cs_beacons_with_0:CompSc ["hands","start","hand"] (defScope Ycn) ["beacon","hands","hand"] [none,some 0,some 2] (fsc [(".0",.local),("beacon",.local),("hand",.free),("hands",.free)]):=Yy (by decide +kernel)
def Yc1:Ro→Option Bool:=(b2 (b2 (getC 1) (getC 0) ixD) (getC 2) (eqM false))
def Yc2:Ro→Option D:=(getV 0)
def Yg4:Ro→Option Out:=(sRet (lF (Ybs (cF (Yh (getV 1) (Yh (cC (Yh (getC 0) aNil) lenC) aNil)) rng2) [none,some 0,some 2] (gSet 0) (Yc1) (Yc2))))
def Yad:List D→Option D:=runB 3 3 Yg4
theorem Yk0(bl:Bl K w mg)  {a:Addr} {fd:FuncData} (F:Fun K "beacons_with" "beacons_with" Ycn a fd) (hm:mg "beacons_with"=some (.ref a)):Okf P w K mg base 1 3 "beacons_with" ["hands","start","hand"] Yad:=by
 refine Yak F (F.binds fun _ _ _ _ _ _ us hl=>by obtain⟨_,_,_,rfl⟩:=len3 hl;rfl) hm (Ys (k:=0) F Ykz rfl rfl fun cdv A outer s H E hr=>?_)
 exact(Yn (Yt (Yz (Yan cs_beacons_with_0 rfl (Ytz rfl bl.Range (Yb (Yg 1) (Yb (Yae Yaj Ych rfl bl.Len PySem.boot_len (Yp (Ye 0) Yu)) Yl))) (fun _ _ _ _ _=>(Yab 0 cs_beacons_with_0.nd)) (fun _ _ _ _ _=>(Yen (Ybc hr.units (Yd (Yj (Ye 1) (Ye 0))) (Ye 2)))) (fun _ _ _ _ _=>(Yg 0)) (Yar (i:=0) rfl)))))
abbrev Ygb:Stmt:=top 31
theorem Ypp:FnScope ["numbers"] ["numbers"] (defScope Ygb):=⟨rfl,rfl,rfl,by decide +kernel,rfl,by decide +kernel,by decide +kernel⟩
def Yk1:Ro→Option Out:=(sRet (mB (b2 (lF (cF (Yh (getC 0) aNil) Yfe)) (lF (Yel (getC 0))) (eqM false))))
def Yd7:List D→Option D:=runB 1 1 Yk1
theorem Ypq(bl:Bl K w mg)  {a:Addr} {fd:FuncData} (F:Fun K "is_rising" "is_rising" Ygb a fd) (hm:mg "is_rising"=some (.ref a)):Okf P w K mg base 1 1 "is_rising" ["numbers"] Yd7:=by
 refine Yak F (F.binds fun _ _ _ _ _ _ us hl=>by obtain⟨_,rfl⟩:=len1 hl;rfl) hm (Ys (k:=0) F Ypp rfl rfl fun cdv A outer s H E hr=>?_)
 exact(Yn (Yt (Yem hr.units (Yd (Yz (Ybe Yat Yci rfl bl.List boot_list (Yp (Ye 0) Yu)))) (Yd (Yz (Yfj rfl rfl bl.Sorted rfl bl.Set (Ye 0)))))))
abbrev Yc9:Stmt:=top 41
theorem Ylt:FnScope ["beacons","others"] ["beacons","others"] (defScope Yc9):=⟨rfl,rfl,rfl,by decide +kernel,rfl,by decide +kernel,by decide +kernel⟩
theorem cs_are_some_of_0:CompSc ["beacons","others"] (defScope Yc9) ["beacon","others"] [none,some 1] (fsc [(".0",.local),("beacon",.local),("others",.free)]):=Yy (by decide +kernel)
def Ydn:Ro→Option D:=(mB (b2 (getC 0) (getC 1) (inM false)))
def Yfo:Ro→Option Out:=(sRet (andV (cC (Yh (getV 0) aNil) Yd7) (cC (Yh (lF (Ybs (b1 (getV 0) Yr) [none,some 1] (gSet 0) tY (Ydn))) aNil) allC)))
def Ybk:List D→Option D:=runB 2 2 Yfo
theorem Ylu(bl:Bl K w mg)(ubv:Okf P w K mg base 1 1 "is_rising" ["numbers"] Yd7){a:Addr}{fd:FuncData}(F:Fun K "are_some_of" "are_some_of" Yc9 a fd)(hm:mg "are_some_of"=some (.ref a)):Okf P w K mg base 2 2 "are_some_of" ["beacons","others"] Ybk:=by
 refine Yak F (F.binds fun _ _ _ _ _ _ us hl=>by obtain⟨_,_,rfl⟩:=len2 hl;rfl) hm (Ys (k:=1) F Ylt rfl rfl fun cdv A outer s H E hr=>?_)
 exact(Yn (Yt (Yhg (Ym ubv hr rfl (Yb (Yg 0) Yl) (Yc (fun _ _ h=>Yo h))) (Yfg (Yae (Ydd rfl) Yf2 rfl bl.All boot_all (Yp (Yd (Yz (Yan cs_are_some_of_0 rfl (Yau (Yg 0)) (fun _ _ _ _ _=>(Yab 0 cs_are_some_of_0.nd)) (fun _ _ _ _ _=>Ya8) (fun _ _ _ _ _=>(Ypl hr.units (Ye 0) (Ye 1))) (Yar (i:=0) rfl)))) Yu))))))
abbrev Yfp:Stmt:=top 42
theorem Yrk:FnScope ["beacons","beacon"] ["beacons","beacon"] (defScope Yfp):=⟨rfl,rfl,rfl,by decide +kernel,rfl,by decide +kernel,by decide +kernel⟩
theorem cs_ahead_of_0:CompSc ["beacons","beacon"] (defScope Yfp) ["other","beacon"] [none,some 1] (fsc [(".0",.local),("other",.local),("beacon",.free)]):=Yy (by decide +kernel)
def Yfq:Ro→Option Bool:=(b2 (getC 0) (getC 1) ltI)
def Yfr:Ro→Option D:=(getV 0)
def Ymp:Ro→Option Out:=(sRet (lF (Ybs (b1 (getV 0) Yr) [none,some 1] (gSet 0) (Yfq) (Yfr))))
def Yce:List D→Option D:=runB 2 2 Ymp
theorem Yrl(bl:Bl K w mg)  {a:Addr} {fd:FuncData} (F:Fun K "ahead_of" "ahead_of" Yfp a fd) (hm:mg "ahead_of"=some (.ref a)):Okf P w K mg base 1 2 "ahead_of" ["beacons","beacon"] Yce:=by
 refine Yak F (F.binds fun _ _ _ _ _ _ us hl=>by obtain⟨_,_,rfl⟩:=len2 hl;rfl) hm (Ys (k:=0) F Yrk rfl rfl fun cdv A outer s H E hr=>?_)
 exact(Yn (Yt (Yz (Yan cs_ahead_of_0 rfl (Yau (Yg 0)) (fun _ _ _ _ _=>(Yab 0 cs_ahead_of_0.nd)) (fun _ _ _ _ _=>(Yen (Ysr (Ye 0) (Ye 1)))) (fun _ _ _ _ _=>(Yg 0)) (Yar (i:=0) rfl)))))
abbrev Yk2:Stmt:=top 43
theorem Ywv:FnScope ["row","first","keepers"] ["row","first","keepers"] (defScope Yk2):=⟨rfl,rfl,rfl,by decide +kernel,rfl,by decide +kernel,by decide +kernel⟩
def Ynq:Ro→Option Out:=(sRet (andV (cC (Yh (b2 (getC 0) (kD (.int 1)) ixD) (Yh (getV 2) aNil)) Ybk) (mB (b2 (cC (Yh (b2 (getC 0) (kD (.int 1)) ixD) (Yh (b2 (getC 0) (kD (.int 0)) ixD) aNil)) Yce) (cC (Yh (getV 1) (Yh (b2 (getC 0) (kD (.int 0)) ixD) aNil)) Yce) (eqM false)))))
def Yic:List D→Option D:=runB 3 3 Ynq
theorem Yww(bl:Bl K w mg)(uk:Okf P w K mg base 2 2 "are_some_of" ["beacons","others"] Ybk)(up:Okf P w K mg base 1 2 "ahead_of" ["beacons","beacon"] Yce){a:Addr}{fd:FuncData}(F:Fun K "is_row" "is_row" Yk2 a fd)(hm:mg "is_row"=some (.ref a)):Okf P w K mg base 3 3 "is_row" ["row","first","keepers"] Yic:=by
 refine Yak F (F.binds fun _ _ _ _ _ _ us hl=>by obtain⟨_,_,_,rfl⟩:=len3 hl;rfl) hm (Ys (k:=2) F Ywv rfl rfl fun cdv A outer s H E hr=>?_)
 exact(Yn (Yt (Yhg (Ym uk hr rfl (Yb (Yj (Ye 0) (Yd Yi)) (Yb (Yg 2) Yl)) (Yc (Yc (fun _ _ h=>Yo h)))) (Yfg (Yem hr.units (Yd (Ym up hr rfl (Yb (Yj (Ye 0) (Yd Yi)) (Yb (Yj (Ye 0) (Yd Yi)) Yl)) (Yc (Yc (fun _ _ h=>Yo h))))) (Yd (Ym up hr rfl (Yb (Yg 1) (Yb (Yj (Ye 0) (Yd Yi)) Yl)) (Yc (Yc (fun _ _ h=>Yo h))))))))))
abbrev Ybv:Stmt:=top 44
theorem Yid:FnScope ["book","lit","count"] ["book","lit","count"] (defScope Ybv):=⟨rfl,rfl,rfl,by decide +kernel,rfl,by decide +kernel,by decide +kernel⟩
theorem cs_holds_where_lit_0:CompSc ["book","lit","count"] (defScope Ybv) ["beacon","lit"] [none,some 1] (fsc [(".0",.local),("beacon",.local),("lit",.free)]):=Yy (by decide +kernel)
def Yb4:Ro→Option D:=(mB (b2 (getC 0) (getC 1) (inM false)))
def Ye9:Ro→Option Out:=(sRet (cC (Yh (getV 0) (Yh (lF (Ybs (cF (Yh (getV 2) aNil) rng1) [none,some 1] (gSet 0) tY (Yb4))) aNil)) Ykw))
def Ybf:List D→Option D:=runB 3 3 Ye9
theorem Yie(bl:Bl K w mg)(ud1:Okf P w K mg base 4 2 "holds" ["book","evening"] Ykw){a:Addr}{fd:FuncData}(F:Fun K "holds_where_lit" "holds_where_lit" Ybv a fd)(hm:mg "holds_where_lit"=some (.ref a)):Okf P w K mg base 5 3 "holds_where_lit" ["book","lit","count"] Ybf:=by
 refine Yak F (F.binds fun _ _ _ _ _ _ us hl=>by obtain⟨_,_,_,rfl⟩:=len3 hl;rfl) hm (Ys (k:=4) F Yid rfl rfl fun cdv A outer s H E hr=>?_)
 exact(Yn (Yt (Ym ud1 hr rfl (Yb (Yg 0) (Yb (Yz (Yan cs_holds_where_lit_0 rfl (Ye5 rfl bl.Range (Yb (Yg 2) Yl)) (fun _ _ _ _ _=>(Yab 0 cs_holds_where_lit_0.nd)) (fun _ _ _ _ _=>Ya8) (fun _ _ _ _ _=>(Ypl hr.units (Ye 0) (Ye 1))) (Yar (i:=0) rfl))) Yl)) (Yc (Yc (fun _ _ h=>Yo h))))))
abbrev Ybx:Stmt:=top 45
theorem sc_rows_good:FnScope ["first","rows","book","keepers","storms","count","lit_ones"] ["first","rows","book","keepers","storms","count"] (defScope Ybx):=⟨rfl,rfl,rfl,by decide +kernel,rfl,by decide +kernel,by decide +kernel⟩
theorem cs_rows_good_0:CompSc ["first","rows","book","keepers","storms","count","lit_ones"] (defScope Ybx) ["row"] [none] (fsc [(".0",.local),("row",.local)]):=Yy (by decide +kernel)
theorem cs_rows_good_1:CompSc ["first","rows","book","keepers","storms","count","lit_ones"] (defScope Ybx) ["row","first","keepers"] [none,some 0,some 3] (fsc [(".0",.local),("row",.local),("is_row",.globalImplicit),("first",.free),("keepers",.free)]):=Yy (by decide +kernel)
theorem cs_rows_good_2:CompSc ["first","rows","book","keepers","storms","count","lit_ones"] (defScope Ybx) ["row","storms"] [none,some 4] (fsc [(".0",.local),("row",.local),("list",.globalImplicit),("without",.globalImplicit),("storms",.free)]):=Yy (by decide +kernel)
theorem cs_rows_good_3:CompSc ["first","rows","book","keepers","storms","count","lit_ones"] (defScope Ybx) ["lit","book","count"] [none,some 2,some 5] (fsc [(".0",.local),("lit",.local),("holds_where_lit",.globalImplicit),("book",.free),("count",.free)]):=Yy (by decide +kernel)
def Yev:Ro→Option D:=(b2 (getC 0) (kD (.int 0)) ixD)
def Yew:Ro→Option D:=(cC (Yh (getV 0) (Yh (getV 1) (Yh (getV 2) aNil))) Yic)
def Yex:Ro→Option D:=(lF (b2 (lF (cF (Yh (cC (Yh (getV 1) (Yh (b2 (getC 0) (kD (.int 0)) ixD) aNil)) Ybw) aNil) Yfe)) (lF (cF (Yh (b2 (getC 0) (kD (.int 1)) ixD) aNil) Yfe)) catD))
def Yey:Ro→Option D:=(cC (Yh (getV 1) (Yh (getV 0) (Yh (getV 2) aNil))) Ybf)
@[simp] def Ynr:Ro→Option Out:=(wF [6] (sRet (cC (Yh (lF (Ybs (b1 (getV 6) Yr) [none,some 2,some 5] (gSet 0) tY (Yey))) aNil) allC)))
@[simp] def Yns:Ro→Option Out:=(sSeq (sOwn 6 (b2 (lF (dLst (Yh (lF (b2 (getC 4) (lF (cF (Yh (getC 0) aNil) Yfe)) catD)) aNil))) (lF (Ybs (b1 (getV 1) Yr) [none,some 4] (gSet 0) tY (Yex))) catD)) Ynr)
@[simp] def Ynt:Ro→Option Out:=(sSeq (sIf (notT (b1 (cC (Yh (lF (Ybs (b1 (getV 1) Yr) [none,some 0,some 3] (gSet 0) tY (Yew))) aNil) allC) truD)) (sRet (kD (.bl false))) sNil) Yns)
def Yd8:Ro→Option Out:=(sSeq (sIf (orT (notT (b1 (cC (Yh (getV 0) (Yh (getV 3) aNil)) Ybk) truD)) (b2 (lF (Ybs (b1 (getV 1) Yr) [none] (gSet 0) tY (Yev))) (getC 4) (eqM true))) (sRet (kD (.bl false))) sNil) Ynt)
def Yc3:List D→Option D:=runB 6 7 Yd8
theorem Ypr(bl:Bl K w mg)(uk:Okf P w K mg base 2 2 "are_some_of" ["beacons","others"] Ybk)(udw:Okf P w K mg base 3 3 "is_row" ["row","first","keepers"] Yic)(ui:Okf P w K mg base 1 2 "without" ["beacons","beacon"] Ybw)(vz:Okf P w K mg base 5 3 "holds_where_lit" ["book","lit","count"] Ybf){a:Addr}{fd:FuncData}(F:Fun K "rows_good" "rows_good" Ybx a fd)(hm:mg "rows_good"=some (.ref a)):Okf P w K mg base 6 6 "rows_good" ["first","rows","book","keepers","storms","count"] Yc3:=by
 refine Yak F (F.binds fun _ _ _ _ _ _ us hl=>by obtain⟨_,_,_,_,_,_,rfl⟩:=len6 hl;rfl) hm (Ys (k:=5) F sc_rows_good rfl rfl fun cdv A outer s H E hr=>?_)
 exact(Yk (Yal (Yd2 (Yjb (Ycw (Ybt (Yd (Ym uk hr rfl (Yb (Yg 0) (Yb (Yg 3) Yl)) (Yc (Yc (fun _ _ h=>Yo h))))))) (Ykl (Ymm hr.units (Yd (Yz (Yan cs_rows_good_0 rfl (Yau (Yg 1)) (fun _ _ _ _ _=>(Yab 0 cs_rows_good_0.nd)) (fun _ _ _ _ _=>Ya8) (fun _ _ _ _ _=>(Yj (Ye 0) (Yd Yi))) (Yar (i:=0) rfl)))) (Ye 4))))) (Yn (Yt Yde)) Yaa) (Yk (Yal (Ycw (Ybt (Yd (Yae (Ydd rfl) Yf2 rfl bl.All boot_all (Yp (Yd (Yz (Yan cs_rows_good_1 rfl (Yau (Yg 1)) (fun _ _ _ _ _=>(Yab 0 cs_rows_good_1.nd)) (fun _ _ _ _ _=>Ya8) (fun _ _ _ _ _=>(Ym udw hr rfl (Yb (Yg 0) (Yb (Yg 1) (Yb (Yg 2) Yl))) (Yc (Yc (Yc (fun _ _ h=>Yo h)))))) (Yar (i:=0) rfl)))) Yu))))) (Yn (Yt Yde)) Yaa) (Yk (Yfh 6 sc_rows_good.nd (Yf6 (Yd (Yz (Yd0 (Yb (Yz (Yf6 (Ye 4) (Yd (Yz (Ybe Yat Yci rfl bl.List boot_list (Yp (Ye 0) Yu)))))) Yl)))) (Yd (Yz (Yan cs_rows_good_2 rfl (Yau (Yg 1)) (fun _ _ _ _ _=>(Yab 0 cs_rows_good_2.nd)) (fun _ _ _ _ _=>Ya8) (fun _ _ _ _ _=>(Yz (Yf6 (Yd (Yz (Ybe Yat Yci rfl bl.List boot_list (Yp (Yd (Ym ui hr rfl (Yb (Yg 1) (Yb (Yj (Ye 0) (Yd Yi)) Yl)) (Yc (Yc (fun _ _ h=>Yo h))))) Yu)))) (Yd (Yz (Ybe Yat Yci rfl bl.List boot_list (Yp (Yd (Yj (Ye 0) (Yd Yi))) Yu))))))) (Yar (i:=0) rfl)))))) (Yn (Yni [6] (Yt (Yae (Ydd rfl) Yf2 rfl bl.All boot_all (Yp (Yd (Yz (Yan cs_rows_good_3 rfl (Yau (Yg 6)) (fun _ _ _ _ _=>(Yab 0 cs_rows_good_3.nd)) (fun _ _ _ _ _=>Ya8) (fun _ _ _ _ _=>(Ym vz hr rfl (Yb (Yg 1) (Yb (Yg 0) (Yb (Yg 2) Yl))) (Yc (Yc (Yc (fun _ _ h=>Yo h)))))) (Yar (i:=0) rfl)))) Yu))))))))
abbrev Yda:Stmt:=top 46
theorem sc_keeper_good:FnScope ["paper","book","hands","start","keepers","storms"] ["paper","book","hands","start"] (defScope Yda):=⟨rfl,rfl,rfl,by decide +kernel,rfl,by decide +kernel,by decide +kernel⟩
def Yif(rec:List D→Option D):Ro→Option Out:=(sSeq (sIf (b2 (b2 (getC 1) (kD (.int 0)) ixD) (kD (.str "nots")) (eqM false)) nS sNil) (sSeq (sSet 4 (cC (Yh (getV 2) (Yh (getV 3) (Yh (kD (.str "keeper")) aNil))) Yad)) (sSeq (sSet 5 (cC (Yh (getV 2) (Yh (getV 3) (Yh (kD (.str "storm")) aNil))) Yad)) (sSeq (sIf (andT (b2 (b2 (getC 0) (kD (.int 0)) ixD) (kD (.str "plan")) (eqM false)) (b2 (b2 (getC 1) (kD (.int 0)) ixD) (kD (.str "eithers")) (eqM false))) nS sNil) (sSeq (sIf (andT (b2 (b2 (getC 0) (kD (.int 0)) ixD) (kD (.str "sums")) (eqM false)) (b2 (b2 (getC 1) (kD (.int 0)) ixD) (kD (.str "sums")) (eqM false))) nS sNil) (sSeq (sIf (andT (b2 (b2 (getC 0) (kD (.int 0)) ixD) (kD (.str "rows")) (eqM false)) (b2 (b2 (getC 1) (kD (.int 0)) ixD) (kD (.str "ifs")) (eqM false))) (sRet (cC (Yh (b2 (getC 0) (kD (.int 1)) ixD) (Yh (b2 (getC 0) (kD (.int 2)) ixD) (Yh (getV 1) (Yh (getV 4) (Yh (getV 5) (Yh (cC (Yh (getC 2) aNil) lenC) aNil)))))) Yc3)) sNil) (sRet (kD (.bl false)))))))))
def Ybo:Nat→List D→Option D
 | 0=>fun _=>none
 | k+1=>runB 4 6 (Yif (Ybo k))
def Yb0:List D→Option D:=Ybo 12
theorem Yk3(bl:Bl K w mg)(ua:Okf P w K mg base 1 3 "beacons_with" ["hands","start","hand"] Yad)(ux:Okf P w K mg base 6 6 "rows_good" ["first","rows","book","keepers","storms","count"] Yc3){k j:Nat}(rc:Okf P w K mg base k 4 "keeper_good" ["paper","book","hands","start"] (Ybo j))(hk:6≤k){a:Addr}{fd:FuncData}(F:Fun K "keeper_good" "keeper_good" Yda a fd)(hm:mg "keeper_good"=some (.ref a)):Okf P w K mg base (k+1) 4 "keeper_good" ["paper","book","hands","start"] (Ybo (j+1)):=by
 refine Yak F (F.binds fun _ _ _ _ _ _ us hl=>by obtain⟨_,_,_,_,rfl⟩:=len4 hl;rfl) hm (Ys (k:=k) F sc_keeper_good rfl rfl fun cdv A outer s H E hr=>?_)
 exact(Yk (Yal (Ybc hr.units (Yd (Yj (Ye 1) (Yd Yi))) (Yd Yw)) (Yn Yd1) Yaa) (Yk (Yah 4 sc_keeper_good.nd (Ym ua hr rfl (Yb (Yg 2) (Yb (Yg 3) (Yb Yw Yl))) (Yc (Yc (Yc (fun _ _ h=>Yo h)))))) (Yk (Yah 5 sc_keeper_good.nd (Ym ua hr rfl (Yb (Yg 2) (Yb (Yg 3) (Yb Yw Yl))) (Yc (Yc (Yc (fun _ _ h=>Yo h)))))) (Yk (Yal (Yd2 (Ydz (Ybc hr.units (Yd (Yj (Ye 0) (Yd Yi))) (Yd Yw)) (Yc8 (Ybc hr.units (Yd (Yj (Ye 1) (Yd Yi))) (Yd Yw))))) (Yn Yd1) Yaa) (Yk (Yal (Yd2 (Ydz (Ybc hr.units (Yd (Yj (Ye 0) (Yd Yi))) (Yd Yw)) (Yc8 (Ybc hr.units (Yd (Yj (Ye 1) (Yd Yi))) (Yd Yw))))) (Yn Yd1) Yaa) (Yk (Yal (Yd2 (Ydz (Ybc hr.units (Yd (Yj (Ye 0) (Yd Yi))) (Yd Yw)) (Yc8 (Ybc hr.units (Yd (Yj (Ye 1) (Yd Yi))) (Yd Yw))))) (Yn (Yt (Ym ux hr rfl (Yb (Yj (Ye 0) (Yd Yi)) (Yb (Yj (Ye 0) (Yd Yi)) (Yb (Yg 1) (Yb (Yg 4) (Yb (Yg 5) (Yb (Yae Yaj Ych rfl bl.Len PySem.boot_len (Yp (Ye 2) Yu)) Yl)))))) (Yc (Yc (Yc (Yc (Yc (Yc (fun _ _ h=>Yo h)))))))))) Yaa) (Yn (Yt Yde))))))))
theorem Ylv(bl:Bl K w mg)(ua:Okf P w K mg base 1 3 "beacons_with" ["hands","start","hand"] Yad)(ux:Okf P w K mg base 6 6 "rows_good" ["first","rows","book","keepers","storms","count"] Yc3){a:Addr}{fd:FuncData}(F:Fun K "keeper_good" "keeper_good" Yda a fd)(hm:mg "keeper_good"=some (.ref a)):Okf P w K mg base 18 4 "keeper_good" ["paper","book","hands","start"] Yb0:=by
 have all:∀j,Okf P w K mg base (6+j) 4 "keeper_good" ["paper","book","hands","start"] (Ybo j):=fun j=>by
  induction j with
  | zero=>exact Yne F (F.binds fun _ _ _ _ _ _ us hl=>by obtain⟨_,_,_,_,rfl⟩:=len4 hl;rfl) hm rfl
  | succ j ih=>exact Yk3 bl ua ux ih (Nat.le_add_right _ _) F hm
 exact all 12
abbrev Yc4:Stmt:=top 48
theorem sc_places_to_none:FnScope ["book","full","place","rule"] ["book","full"] (defScope Yc4):=⟨rfl,rfl,rfl,by decide +kernel,rfl,by decide +kernel,by decide +kernel⟩
def Ya1:Ro→Option Out:=(sIf (andT (b2 (b2 (getC 3) (kD (.int 1)) ixD) (kD .non) (isN false)) (b1 (cC (Yh (getV 3) (Yh (b2 (getC 1) (kD (.int 0)) ixD) aNil)) Yai) truD)) (sRet (b2 (b2 (getC 1) (kD (.int 1)) ixD) (dTup (Yh (getV 2) aNil)) Ypk)) sNil)
def Yfy:Ro→Option Out:=(sSeq (sFor (b1 (b2 (getC 0) (kD (.int 1)) ixD) Ylq) (Yj9 2 3) Ya1) (sRet (kD .non)))
def Ya4:List D→Option D:=runB 2 4 Yfy
theorem Yi2(bl:Bl K w mg)(ub:Okf P w K mg base 1 2 "body_is_known" ["rule","known"] Yai){a:Addr}{fd:FuncData}(F:Fun K "places_to_none" "places_to_none" Yc4 a fd)(hm:mg "places_to_none"=some (.ref a)):Okf P w K mg base 2 2 "places_to_none" ["book","full"] Ya4:=by
 refine Yak F (F.binds fun _ _ _ _ _ _ us hl=>by obtain⟨_,_,rfl⟩:=len2 hl;rfl) hm (Ys (k:=1) F sc_places_to_none rfl rfl fun cdv A outer s H E hr=>?_)
 exact(Yk (Yiw PassesOwn.never rfl (Yfi rfl bl.Enumerate (Yj (Ye 0) (Yd Yi))) (Ynj 2 3 rfl sc_places_to_none.nd) (Yn (Yal (Yd2 (Ydz (Yq9 (Yd (Yj (Ye 3) (Yd Yi))) (Yd Yb3)) (Yc8 (Ybt (Yd (Ym ub hr rfl (Yb (Yg 3) (Yb (Yj (Ye 1) (Yd Yi)) Yl)) (Yc (Yc (fun _ _ h=>Yo h))))))))) (Yn (Yt (Ysv (Yd (Yj (Ye 1) (Yd Yi))) (Yd (Ybd (Yb (Yg 2) Yl)))))) Yaa))) (Yn (Yt Yb3)))
abbrev Ybl:Stmt:=top 49
theorem sc_places_to_beacon:FnScope ["book","full","beacon","heads"] ["book","full","beacon"] (defScope Ybl):=⟨rfl,rfl,rfl,by decide +kernel,rfl,by decide +kernel,by decide +kernel⟩
theorem cs_places_to_beacon_0:CompSc ["book","full","beacon","heads"] (defScope Ybl) ["place","book"] [none,some 0] (fsc [(".0",.local),("place",.local),("book",.free)]):=Yy (by decide +kernel)
def Yby:Ro→Option D:=(b2 (b2 (b2 (getC 1) (kD (.int 1)) ixD) (getC 0) ixD) (kD (.int 1)) ixD)
@[simp] def Ygw:Ro→Option Out:=(sRet (slD (b2 (getC 1) (kD (.int 1)) ixD) none (some (b2 (b2 (getC 3) (getV 2) idxD) (kD (.int 1)) addI))))
@[simp] def Ygx:Ro→Option Out:=(sSeq (sIf (b2 (getC 2) (getC 3) (inM true)) (sRet (kD .non)) sNil) Ygw)
def Yco:Ro→Option Out:=(sSeq (sOwn 3 (Ybs (b1 (b2 (getC 1) (kD (.int 1)) ixD) Yr) [none,some 0] (gSet 0) tY (Yby))) Ygx)
def Yap:List D→Option D:=runB 3 4 Yco
theorem Yho(bl:Bl K w mg)  {a:Addr} {fd:FuncData} (F:Fun K "places_to_beacon" "places_to_beacon" Ybl a fd) (hm:mg "places_to_beacon"=some (.ref a)):Okf P w K mg base 1 3 "places_to_beacon" ["book","full","beacon"] Yap:=by
 refine Yak F (F.binds fun _ _ _ _ _ _ us hl=>by obtain⟨_,_,_,rfl⟩:=len3 hl;rfl) hm (Ys (k:=0) F sc_places_to_beacon rfl rfl fun cdv A outer s H E hr=>?_)
 exact(Yk (Yh5 3 sc_places_to_beacon.nd cs_places_to_beacon_0 rfl (Yau (Yj (Ye 1) (Yd Yi))) (fun _ _ _ _ _=>(Yab 0 cs_places_to_beacon_0.nd)) (fun _ _ _ _ _=>Ya8) (fun _ _ _ _ _=>(Yj (Yd (Yj (Yd (Yj (Ye 1) (Yd Yi))) (Ye 0))) (Yd Yi))) (Yar (i:=0) rfl)) (Yk (Yal (Ywd hr.units (Ye 2) (Ye 3)) (Yn (Yt Yb3)) Yaa) (Yn (Yt (Yko (fl:=none) (fh:=(some (b2 (b2 (getC 3) (getV 2) idxD) (kD (.int 1)) addI))) (Yd (Yj (Ye 1) (Yd Yi))) Ypm (Ykn (Yd (Yf5 (Yd (Ywt (Ye 3) (Yg 2))) (Yd Yi)))))))))
abbrev Ygq:Stmt:=top 50
theorem Yt5:FnScope ["beacons","known"] ["beacons","known"] (defScope Ygq):=⟨rfl,rfl,rfl,by decide +kernel,rfl,by decide +kernel,by decide +kernel⟩
theorem cs_some_of_0:CompSc ["beacons","known"] (defScope Ygq) ["beacon","known"] [none,some 1] (fsc [(".0",.local),("beacon",.local),("known",.free)]):=Yy (by decide +kernel)
def Ygc:Ro→Option Bool:=(b2 (getC 0) (getC 1) (inM false))
def Ygd:Ro→Option D:=(getV 0)
def Yps:Ro→Option Out:=(sRet (cC (Yh (lF (Ybs (b1 (getV 0) Yr) [none,some 1] (gSet 0) (Ygc) (Ygd))) aNil) tupC))
def Yfa:List D→Option D:=runB 2 2 Yps
theorem Yt6(bl:Bl K w mg)  {a:Addr} {fd:FuncData} (F:Fun K "some_of" "some_of" Ygq a fd) (hm:mg "some_of"=some (.ref a)):Okf P w K mg base 1 2 "some_of" ["beacons","known"] Yfa:=by
 refine Yak F (F.binds fun _ _ _ _ _ _ us hl=>by obtain⟨_,_,rfl⟩:=len2 hl;rfl) hm (Ys (k:=0) F Yt5 rfl rfl fun cdv A outer s H E hr=>?_)
 exact(Yn (Yt (Yas Yag Ycj rfl bl.Tuple boot_tuple (Yp (Yd (Yz (Yan cs_some_of_0 rfl (Yau (Yg 0)) (fun _ _ _ _ _=>(Yab 0 cs_some_of_0.nd)) (fun _ _ _ _ _=>(Yen (Yss hr.units (Ye 0) (Ye 1)))) (fun _ _ _ _ _=>(Yg 0)) (Yar (i:=0) rfl)))) Yu))))
abbrev Yd9:Stmt:=top 51
theorem Yk4:FnScope ["beacon","storms","first"] ["beacon","storms","first"] (defScope Yd9):=⟨rfl,rfl,rfl,by decide +kernel,rfl,by decide +kernel,by decide +kernel⟩
def Yg5:Ro→Option Out:=(sRet (lF (b2 (lF (cF (Yh (cC (Yh (getV 1) (Yh (getV 0) aNil)) Ybw) aNil) Yfe)) (cC (Yh (getV 2) (Yh (getV 0) aNil)) Yce) catD)))
def Yb7:List D→Option D:=runB 3 3 Yg5
theorem Yk5(bl:Bl K w mg)(ui:Okf P w K mg base 1 2 "without" ["beacons","beacon"] Ybw)(up:Okf P w K mg base 1 2 "ahead_of" ["beacons","beacon"] Yce){a:Addr}{fd:FuncData}(F:Fun K "facts_beside" "facts_beside" Yd9 a fd)(hm:mg "facts_beside"=some (.ref a)):Okf P w K mg base 2 3 "facts_beside" ["beacon","storms","first"] Yb7:=by
 refine Yak F (F.binds fun _ _ _ _ _ _ us hl=>by obtain⟨_,_,_,rfl⟩:=len3 hl;rfl) hm (Ys (k:=1) F Yk4 rfl rfl fun cdv A outer s H E hr=>?_)
 exact(Yn (Yt (Yz (Yf6 (Yd (Yz (Ybe Yat Yci rfl bl.List boot_list (Yp (Yd (Ym ui hr rfl (Yb (Yg 1) (Yb (Yg 0) Yl)) (Yc (Yc (fun _ _ h=>Yo h))))) Yu)))) (Yd (Ym up hr rfl (Yb (Yg 2) (Yb (Yg 0) Yl)) (Yc (Yc (fun _ _ h=>Yo h)))))))))
abbrev Yfs:Stmt:=top 52
theorem sc_if_outcome:FnScope ["book","hands","start","keepers","storms","whole","places","first","rows","beacon","full"] ["book","hands","start"] (defScope Yfs):=⟨rfl,rfl,rfl,by decide +kernel,rfl,by decide +kernel,by decide +kernel⟩
def Ycp:Ro→Option Out:=(sSeq (sSet 10 (cC (Yh (getV 0) (Yh (cC (Yh (getV 9) (Yh (getV 4) (Yh (getV 7) aNil))) Yb7) aNil)) Yam)) (sSeq (sSet 6 (cC (Yh (getV 0) (Yh (getV 10) (Yh (getV 9) aNil))) Yap)) (sSeq (sIf (b2 (getC 6) (kD .non) (isN true)) (sRet (dTup (Yh (kD (.str "storm")) (Yh (dTup (Yh (kD (.str "lone")) (Yh (getV 9) (Yh (b2 (getC 5) (kD (.int 1)) ixD) (Yh (getV 6) aNil))))) aNil)))) sNil) (sMut 8 (dTup (Yh (getV 9) (Yh (cC (Yh (getV 3) (Yh (b2 (getC 10) (kD (.int 0)) ixD) aNil)) Yfa) aNil))) appD))))
@[simp] def Ylw:Ro→Option Out:=(sRet (dTup (Yh (kD (.str "keeper")) (Yh (dTup (Yh (kD (.str "rows")) (Yh (getV 7) (Yh (cC (Yh (getC 8) aNil) tupC) aNil)))) aNil))))
@[simp] def Yez:Ro→Option Out:=(sSeq (sFor (b1 (getV 4) Yr) (gSet 9) Ycp) Ylw)
@[simp] def Ylx:Ro→Option Out:=(sSeq (sOwn 8 (dLst aNil)) Yez)
@[simp] def Yly:Ro→Option Out:=(sSeq (sSet 7 (cC (Yh (getV 3) (Yh (b2 (getC 5) (kD (.int 0)) ixD) aNil)) Yfa)) Ylx)
@[simp] def Ylz:Ro→Option Out:=(sSeq (sIf (b2 (getC 6) (kD .non) (isN true)) (sRet (dTup (Yh (kD (.str "storm")) (Yh (dTup (Yh (kD (.str "lone")) (Yh (kD .non) (Yh (dTup aNil) (Yh (getV 6) aNil))))) aNil)))) sNil) Yly)
@[simp] def Yl0:Ro→Option Out:=(sSeq (sSet 6 (cC (Yh (getV 0) (Yh (getV 5) aNil)) Ya4)) Ylz)
@[simp] def Yl1:Ro→Option Out:=(sSeq (sSet 5 (cC (Yh (getV 0) (Yh (getV 4) aNil)) Yam)) Yl0)
@[simp] def Yl2:Ro→Option Out:=(sSeq (sSet 4 (cC (Yh (getV 1) (Yh (getV 2) (Yh (kD (.str "storm")) aNil))) Yad)) Yl1)
def Yep:Ro→Option Out:=(sSeq (sSet 3 (cC (Yh (getV 1) (Yh (getV 2) (Yh (kD (.str "keeper")) aNil))) Yad)) Yl2)
def Yay:List D→Option D:=runB 3 11 Yep
theorem Ynu(bl:Bl K w mg)(ua:Okf P w K mg base 1 3 "beacons_with" ["hands","start","hand"] Yad)(ul:Okf P w K mg base 4 2 "derived_in_full" ["book","facts"] Yam)(xl:Okf P w K mg base 2 2 "places_to_none" ["book","full"] Ya4)(uak:Okf P w K mg base 1 2 "some_of" ["beacons","known"] Yfa)(zw:Okf P w K mg base 2 3 "facts_beside" ["beacon","storms","first"] Yb7)(vh:Okf P w K mg base 1 3 "places_to_beacon" ["book","full","beacon"] Yap){a:Addr}{fd:FuncData}(F:Fun K "if_outcome" "if_outcome" Yfs a fd)(hm:mg "if_outcome"=some (.ref a)):Okf P w K mg base 5 3 "if_outcome" ["book","hands","start"] Yay:=by
 refine Yak F (F.binds fun _ _ _ _ _ _ us hl=>by obtain⟨_,_,_,rfl⟩:=len3 hl;rfl) hm (Ys (k:=4) F sc_if_outcome rfl rfl fun cdv A outer s H E hr=>?_)
 exact(Yk (Yah 3 sc_if_outcome.nd (Ym ua hr rfl (Yb (Yg 1) (Yb (Yg 2) (Yb Yw Yl))) (Yc (Yc (Yc (fun _ _ h=>Yo h)))))) (Yk (Yah 4 sc_if_outcome.nd (Ym ua hr rfl (Yb (Yg 1) (Yb (Yg 2) (Yb Yw Yl))) (Yc (Yc (Yc (fun _ _ h=>Yo h)))))) (Yk (Yah 5 sc_if_outcome.nd (Ym ul hr rfl (Yb (Yg 0) (Yb (Yg 4) Yl)) (Yc (Yc (fun _ _ h=>Yo h))))) (Yk (Yah 6 sc_if_outcome.nd (Ym xl hr rfl (Yb (Yg 0) (Yb (Yg 5) Yl)) (Yc (Yc (fun _ _ h=>Yo h))))) (Yk (Yal (Yjy (Ye 6) (Yd Yb3)) (Yn (Yt (Ybd (Yb Yw (Yb (Ybd (Yb Yw (Yb Yb3 (Yb (Ybd Yl) (Yb (Yg 6) Yl))))) Yl))))) Yaa) (Yk (Yah 7 sc_if_outcome.nd (Ym uak hr rfl (Yb (Yg 3) (Yb (Yj (Ye 5) (Yd Yi)) Yl)) (Yc (Yc (fun _ _ h=>Yo h))))) (Yk (Yfh 8 sc_if_outcome.nd (Yd0 Yl)) (Yk (Yiw PassesOwn.never rfl (Yau (Yg 4)) (Yab 9 sc_if_outcome.nd) (Yk (Yah 10 sc_if_outcome.nd (Ym ul hr rfl (Yb (Yg 0) (Yb (Ym zw hr rfl (Yb (Yg 9) (Yb (Yg 4) (Yb (Yg 7) Yl))) (Yc (Yc (Yc (fun _ _ h=>Yo h))))) Yl)) (Yc (Yc (fun _ _ h=>Yo h))))) (Yk (Yah 6 sc_if_outcome.nd (Ym vh hr rfl (Yb (Yg 0) (Yb (Yg 10) (Yb (Yg 9) Yl))) (Yc (Yc (Yc (fun _ _ h=>Yo h)))))) (Yk (Yal (Yjy (Ye 6) (Yd Yb3)) (Yn (Yt (Ybd (Yb Yw (Yb (Ybd (Yb Yw (Yb (Yg 9) (Yb (Yj (Ye 5) (Yd Yi)) (Yb (Yg 6) Yl))))) Yl))))) Yaa) (Yn (Ydv 8 (Ybd (Yb (Yg 9) (Yb (Ym uak hr rfl (Yb (Yg 3) (Yb (Yj (Ye 10) (Yd Yi)) Yl)) (Yc (Yc (fun _ _ h=>Yo h)))) Yl))))))))) (Yn (Yt (Ybd (Yb Yw (Yb (Ybd (Yb Yw (Yb (Yg 7) (Yb (Yas Yag Ycj rfl bl.Tuple boot_tuple (Yp (Ye 8) Yu)) Yl)))) Yl)))))))))))))
abbrev Ycq:Stmt:=top 60
theorem sc_first_ones:FnScope ["beacon","places","book","keepers","heads"] ["beacon","places","book","keepers"] (defScope Ycq):=⟨rfl,rfl,rfl,by decide +kernel,rfl,by decide +kernel,by decide +kernel⟩
theorem cs_first_ones_0:CompSc ["beacon","places","book","keepers","heads"] (defScope Ycq) ["place","book"] [none,some 2] (fsc [(".0",.local),("place",.local),("book",.free)]):=Yy (by decide +kernel)
theorem cs_first_ones_1:CompSc ["beacon","places","book","keepers","heads"] (defScope Ycq) ["keeper","beacon","heads"] [none,some 0,some 4] (fsc [(".0",.local),("keeper",.local),("beacon",.free),("heads",.free)]):=Yy (by decide +kernel)
def Yea:Ro→Option D:=(b2 (b2 (b2 (getC 1) (kD (.int 1)) ixD) (getC 0) ixD) (kD (.int 1)) ixD)
def Yeb:Ro→Option Bool:=(andT (b2 (getC 0) (getC 1) ltI) (b2 (getC 0) (getC 2) (inM false)))
def Yec:Ro→Option D:=(getV 0)
@[simp] def Yl3:Ro→Option Out:=(wF [4] (sRet (lF (Ybs (b1 (getV 3) Yr) [none,some 0,some 4] (gSet 0) (Yeb) (Yec)))))
@[simp] def Yl4:Ro→Option Out:=(sSeq (sOwn 4 (Ybs (b1 (getV 1) Yr) [none,some 2] (gSet 0) tY (Yea))) Yl3)
def Yge:Ro→Option Out:=(sSeq (sIf (b2 (getC 0) (kD .non) (isN false)) (sRet (lF (dLst aNil))) sNil) Yl4)
def Ydj:List D→Option D:=runB 4 5 Yge
theorem Ynv(bl:Bl K w mg)  {a:Addr} {fd:FuncData} (F:Fun K "first_ones" "first_ones" Ycq a fd) (hm:mg "first_ones"=some (.ref a)):Okf P w K mg base 1 4 "first_ones" ["beacon","places","book","keepers"] Ydj:=by
 refine Yak F (F.binds fun _ _ _ _ _ _ us hl=>by obtain⟨_,_,_,_,rfl⟩:=len4 hl;rfl) hm (Ys (k:=0) F sc_first_ones rfl rfl fun cdv A outer s H E hr=>?_)
 exact(Yk (Yal (Yq9 (Ye 0) (Yd Yb3)) (Yn (Yt (Yz (Yd0 Yl)))) Yaa) (Yk (Yfh 4 sc_first_ones.nd (Yan cs_first_ones_0 rfl (Yau (Yg 1)) (fun _ _ _ _ _=>(Yab 0 cs_first_ones_0.nd)) (fun _ _ _ _ _=>Ya8) (fun _ _ _ _ _=>(Yj (Yd (Yj (Yd (Yj (Ye 1) (Yd Yi))) (Ye 0))) (Yd Yi))) (Yar (i:=0) rfl))) (Yn (Yni [4] (Yt (Yz (Yan cs_first_ones_1 rfl (Yau (Yg 3)) (fun _ _ _ _ _=>(Yab 0 cs_first_ones_1.nd)) (fun _ _ _ _ _=>(Yen (Yd2 (Ydz (Ysr (Ye 0) (Ye 1)) (Yc8 (Yss hr.units (Ye 0) (Ye 2))))))) (fun _ _ _ _ _=>(Yg 0)) (Yar (i:=0) rfl))))))))
abbrev Ydo:Stmt:=top 61
theorem Yjl:FnScope ["beacon","places","book","storms"] ["beacon","places","book","storms"] (defScope Ydo):=⟨rfl,rfl,rfl,by decide +kernel,rfl,by decide +kernel,by decide +kernel⟩
def Yed:Ro→Option Out:=(sSeq (sIf (b2 (getC 0) (kD .non) (isN false)) (sRet (mB (b2 (cC (Yh (getC 1) aNil) lenC) (kD (.int 0)) (eqM false)))) sNil) (sRet (andV (mB (b2 (getC 0) (getC 3) (inM false))) (cC (Yh (getV 2) (Yh (getV 3) (Yh (getV 1) aNil))) Ya0))))
def Ybz:List D→Option D:=runB 4 4 Yed
theorem Yjm(bl:Bl K w mg)(ue:Okf P w K mg base 3 3 "is_derivation" ["book","facts","places"] Ya0){a:Addr}{fd:FuncData}(F:Fun K "is_first_part" "is_first_part" Ydo a fd)(hm:mg "is_first_part"=some (.ref a)):Okf P w K mg base 4 4 "is_first_part" ["beacon","places","book","storms"] Ybz:=by
 refine Yak F (F.binds fun _ _ _ _ _ _ us hl=>by obtain⟨_,_,_,_,rfl⟩:=len4 hl;rfl) hm (Ys (k:=3) F Yjl rfl rfl fun cdv A outer s H E hr=>?_)
 exact(Yk (Yal (Yq9 (Ye 0) (Yd Yb3)) (Yn (Yt (Yem hr.units (Yd (Yae Yaj Ych rfl bl.Len PySem.boot_len (Yp (Ye 1) Yu))) (Yd Yi)))) Yaa) (Yn (Yt (Yhg (Ypl hr.units (Ye 0) (Ye 3)) (Yfg (Ym ue hr rfl (Yb (Yg 2) (Yb (Yg 3) (Yb (Yg 1) Yl))) (Yc (Yc (Yc (fun _ _ h=>Yo h))))))))))
abbrev Yee:Stmt:=top 62
theorem sc_is_last_part:FnScope ["beacon","places","book","facts","rule","known"] ["beacon","places","book","facts"] (defScope Yee):=⟨rfl,rfl,rfl,by decide +kernel,rfl,by decide +kernel,by decide +kernel⟩
@[simp] def Yjn:Ro→Option Out:=(sRet (andV (cC (Yh (getV 4) (Yh (getV 5) aNil)) Yai) (mB (b2 (b2 (getC 4) (kD (.int 1)) ixD) (dTup (Yh (kD .non) (Yh (getV 0) aNil))) (inM false)))))
@[simp] def Yjo:Ro→Option Out:=(sSeq (sSet 5 (cC (Yh (getV 2) (Yh (getV 3) (Yh (slD (getC 1) none (some (b1 (kD (.int 1)) negI))) aNil))) Yga)) Yjn)
@[simp] def Yjp:Ro→Option Out:=(sSeq (sSet 4 (b2 (b2 (getC 2) (kD (.int 1)) ixD) (b2 (getC 1) (b1 (kD (.int 1)) negI) ixD) ixD)) Yjo)
def Yb8:Ro→Option Out:=(sSeq (sIf (orT (b2 (cC (Yh (getC 1) aNil) lenC) (kD (.int 0)) (eqM false)) (orT (notT (b1 (cC (Yh (getV 2) (Yh (b2 (getC 1) (b1 (kD (.int 1)) negI) ixD) aNil)) Yc0) truD)) (notT (b1 (cC (Yh (getV 2) (Yh (getV 3) (Yh (slD (getC 1) none (some (b1 (kD (.int 1)) negI))) aNil))) Ya0) truD)))) (sRet (kD (.bl false))) sNil) Yjp)
def Yb9:List D→Option D:=runB 4 6 Yb8
theorem Yk6(bl:Bl K w mg)(u8:Okf P w K mg base 1 2 "is_place" ["book","place"] Yc0)(ue:Okf P w K mg base 3 3 "is_derivation" ["book","facts","places"] Ya0)(ude:Okf P w K mg base 1 3 "derived" ["book","facts","places"] Yga)(ub:Okf P w K mg base 1 2 "body_is_known" ["rule","known"] Yai){a:Addr}{fd:FuncData}(F:Fun K "is_last_part" "is_last_part" Yee a fd)(hm:mg "is_last_part"=some (.ref a)):Okf P w K mg base 4 4 "is_last_part" ["beacon","places","book","facts"] Yb9:=by
 refine Yak F (F.binds fun _ _ _ _ _ _ us hl=>by obtain⟨_,_,_,_,rfl⟩:=len4 hl;rfl) hm (Ys (k:=3) F sc_is_last_part rfl rfl fun cdv A outer s H E hr=>?_)
 exact(Yk (Yal (Yd2 (Yjb (Ybc hr.units (Yd (Yae Yaj Ych rfl bl.Len PySem.boot_len (Yp (Ye 1) Yu))) (Yd Yi)) (Yjb (Ycw (Ybt (Yd (Ym u8 hr rfl (Yb (Yg 2) (Yb (Yj (Ye 1) (Yd (Ynk (Yd Yi)))) Yl)) (Yc (Yc (fun _ _ h=>Yo h))))))) (Ykl (Ycw (Ybt (Yd (Ym ue hr rfl (Yb (Yg 2) (Yb (Yg 3) (Yb (Yko (fl:=none) (fh:=(some (b1 (kD (.int 1)) negI))) (Ye 1) Ypm (Ykn (Yd (Ynk (Yd Yi))))) Yl))) (Yc (Yc (Yc (fun _ _ h=>Yo h)))))))))))) (Yn (Yt Yde)) Yaa) (Yk (Yah 4 sc_is_last_part.nd (Yj (Yd (Yj (Ye 2) (Yd Yi))) (Yd (Yj (Ye 1) (Yd (Ynk (Yd Yi))))))) (Yk (Yah 5 sc_is_last_part.nd (Ym ude hr rfl (Yb (Yg 2) (Yb (Yg 3) (Yb (Yko (fl:=none) (fh:=(some (b1 (kD (.int 1)) negI))) (Ye 1) Ypm (Ykn (Yd (Ynk (Yd Yi))))) Yl))) (Yc (Yc (Yc (fun _ _ h=>Yo h)))))) (Yn (Yt (Yhg (Ym ub hr rfl (Yb (Yg 4) (Yb (Yg 5) Yl)) (Yc (Yc (fun _ _ h=>Yo h)))) (Yfg (Ypl hr.units (Yd (Yj (Ye 4) (Yd Yi))) (Yd (Ybd (Yb Yb3 (Yb (Yg 0) Yl))))))))))))
abbrev Ygf:Stmt:=top 63
theorem sc_lone_good:FnScope ["paper","book","keepers","storms","beacon","facts"] ["paper","book","keepers","storms"] (defScope Ygf):=⟨rfl,rfl,rfl,by decide +kernel,rfl,by decide +kernel,by decide +kernel⟩
@[simp] def Ynw:Ro→Option Out:=(wF [5] (sRet (cC (Yh (getV 4) (Yh (b2 (getC 0) (kD (.int 3)) ixD) (Yh (getV 1) (Yh (getV 5) aNil)))) Yb9)))
@[simp] def Ynx:Ro→Option Out:=(sSeq (sOwn 5 (b2 (lF (cF (Yh (cC (Yh (getV 3) (Yh (getV 4) aNil)) Ybw) aNil) Yfe)) (cC (Yh (getV 4) (Yh (b2 (getC 0) (kD (.int 2)) ixD) (Yh (getV 1) (Yh (getV 2) aNil)))) Ydj) catD)) Ynw)
@[simp] def Yny:Ro→Option Out:=(sSeq (sIf (notT (b1 (cC (Yh (getV 4) (Yh (b2 (getC 0) (kD (.int 2)) ixD) (Yh (getV 1) (Yh (getV 3) aNil)))) Ybz) truD)) (sRet (kD (.bl false))) sNil) Ynx)
def Yhp:Ro→Option Out:=(sSeq (sSet 4 (b2 (getC 0) (kD (.int 1)) ixD)) Yny)
def Ycc:List D→Option D:=runB 4 6 Yhp
theorem Ypt(bl:Bl K w mg)(xw:Okf P w K mg base 4 4 "is_first_part" ["beacon","places","book","storms"] Ybz)(ui:Okf P w K mg base 1 2 "without" ["beacons","beacon"] Ybw)(ua2:Okf P w K mg base 1 4 "first_ones" ["beacon","places","book","keepers"] Ydj)(zx:Okf P w K mg base 4 4 "is_last_part" ["beacon","places","book","facts"] Yb9){a:Addr}{fd:FuncData}(F:Fun K "lone_good" "lone_good" Ygf a fd)(hm:mg "lone_good"=some (.ref a)):Okf P w K mg base 5 4 "lone_good" ["paper","book","keepers","storms"] Ycc:=by
 refine Yak F (F.binds fun _ _ _ _ _ _ us hl=>by obtain⟨_,_,_,_,rfl⟩:=len4 hl;rfl) hm (Ys (k:=4) F sc_lone_good rfl rfl fun cdv A outer s H E hr=>?_)
 exact(Yk (Yah 4 sc_lone_good.nd (Yj (Ye 0) (Yd Yi))) (Yk (Yal (Ycw (Ybt (Yd (Ym xw hr rfl (Yb (Yg 4) (Yb (Yj (Ye 0) (Yd Yi)) (Yb (Yg 1) (Yb (Yg 3) Yl)))) (Yc (Yc (Yc (Yc (fun _ _ h=>Yo h))))))))) (Yn (Yt Yde)) Yaa) (Yk (Yfh 5 sc_lone_good.nd (Yf6 (Yd (Yz (Ybe Yat Yci rfl bl.List boot_list (Yp (Yd (Ym ui hr rfl (Yb (Yg 3) (Yb (Yg 4) Yl)) (Yc (Yc (fun _ _ h=>Yo h))))) Yu)))) (Yd (Ym ua2 hr rfl (Yb (Yg 4) (Yb (Yj (Ye 0) (Yd Yi)) (Yb (Yg 1) (Yb (Yg 2) Yl)))) (Yc (Yc (Yc (Yc (fun _ _ h=>Yo h))))))))) (Yn (Yni [5] (Yt (Ym zx hr rfl (Yb (Yg 4) (Yb (Yj (Ye 0) (Yd Yi)) (Yb (Yg 1) (Yb (Yg 5) Yl)))) (Yc (Yc (Yc (Yc (fun _ _ h=>Yo h))))))))))))
abbrev Yds:Stmt:=top 65
theorem sc_storm_good:FnScope ["paper","book","hands","start","keepers","storms"] ["paper","book","hands","start"] (defScope Yds):=⟨rfl,rfl,rfl,by decide +kernel,rfl,by decide +kernel,by decide +kernel⟩
def Yjd(rec:List D→Option D):Ro→Option Out:=(sSeq (sIf (b2 (b2 (getC 1) (kD (.int 0)) ixD) (kD (.str "nots")) (eqM false)) nS sNil) (sSeq (sSet 4 (cC (Yh (getV 2) (Yh (getV 3) (Yh (kD (.str "keeper")) aNil))) Yad)) (sSeq (sSet 5 (cC (Yh (getV 2) (Yh (getV 3) (Yh (kD (.str "storm")) aNil))) Yad)) (sSeq (sIf (b2 (b2 (getC 0) (kD (.int 0)) ixD) (kD (.str "broken")) (eqM false)) nS sNil) (sSeq (sIf (b2 (b2 (getC 1) (kD (.int 0)) ixD) (kD (.str "eithers")) (eqM false)) nS sNil) (sSeq (sIf (andT (b2 (b2 (getC 0) (kD (.int 0)) ixD) (kD (.str "odd")) (eqM false)) (b2 (b2 (getC 1) (kD (.int 0)) ixD) (kD (.str "sums")) (eqM false))) nS sNil) (sSeq (sIf (andT (b2 (b2 (getC 0) (kD (.int 0)) ixD) (kD (.str "lone")) (eqM false)) (b2 (b2 (getC 1) (kD (.int 0)) ixD) (kD (.str "ifs")) (eqM false))) (sRet (cC (Yh (getV 0) (Yh (getV 1) (Yh (getV 4) (Yh (getV 5) aNil)))) Ycc)) sNil) (sRet (kD (.bl false))))))))))
def Yb1:Nat→List D→Option D
 | 0=>fun _=>none
 | k+1=>runB 4 6 (Yjd (Yb1 k))
def Ycf:List D→Option D:=Yb1 12
theorem Yl5(bl:Bl K w mg)(ua:Okf P w K mg base 1 3 "beacons_with" ["hands","start","hand"] Yad)(uy:Okf P w K mg base 5 4 "lone_good" ["paper","book","keepers","storms"] Ycc){k j:Nat}(rc:Okf P w K mg base k 4 "storm_good" ["paper","book","hands","start"] (Yb1 j))(hk:5≤k){a:Addr}{fd:FuncData}(F:Fun K "storm_good" "storm_good" Yds a fd)(hm:mg "storm_good"=some (.ref a)):Okf P w K mg base (k+1) 4 "storm_good" ["paper","book","hands","start"] (Yb1 (j+1)):=by
 refine Yak F (F.binds fun _ _ _ _ _ _ us hl=>by obtain⟨_,_,_,_,rfl⟩:=len4 hl;rfl) hm (Ys (k:=k) F sc_storm_good rfl rfl fun cdv A outer s H E hr=>?_)
 exact(Yk (Yal (Ybc hr.units (Yd (Yj (Ye 1) (Yd Yi))) (Yd Yw)) (Yn Yd1) Yaa) (Yk (Yah 4 sc_storm_good.nd (Ym ua hr rfl (Yb (Yg 2) (Yb (Yg 3) (Yb Yw Yl))) (Yc (Yc (Yc (fun _ _ h=>Yo h)))))) (Yk (Yah 5 sc_storm_good.nd (Ym ua hr rfl (Yb (Yg 2) (Yb (Yg 3) (Yb Yw Yl))) (Yc (Yc (Yc (fun _ _ h=>Yo h)))))) (Yk (Yal (Ybc hr.units (Yd (Yj (Ye 0) (Yd Yi))) (Yd Yw)) (Yn Yd1) Yaa) (Yk (Yal (Ybc hr.units (Yd (Yj (Ye 1) (Yd Yi))) (Yd Yw)) (Yn Yd1) Yaa) (Yk (Yal (Yd2 (Ydz (Ybc hr.units (Yd (Yj (Ye 0) (Yd Yi))) (Yd Yw)) (Yc8 (Ybc hr.units (Yd (Yj (Ye 1) (Yd Yi))) (Yd Yw))))) (Yn Yd1) Yaa) (Yk (Yal (Yd2 (Ydz (Ybc hr.units (Yd (Yj (Ye 0) (Yd Yi))) (Yd Yw)) (Yc8 (Ybc hr.units (Yd (Yj (Ye 1) (Yd Yi))) (Yd Yw))))) (Yn (Yt (Ym uy hr rfl (Yb (Yg 0) (Yb (Yg 1) (Yb (Yg 4) (Yb (Yg 5) Yl)))) (Yc (Yc (Yc (Yc (fun _ _ h=>Yo h)))))))) Yaa) (Yn (Yt Yde)))))))))
theorem Ynz(bl:Bl K w mg)(ua:Okf P w K mg base 1 3 "beacons_with" ["hands","start","hand"] Yad)(uy:Okf P w K mg base 5 4 "lone_good" ["paper","book","keepers","storms"] Ycc){a:Addr}{fd:FuncData}(F:Fun K "storm_good" "storm_good" Yds a fd)(hm:mg "storm_good"=some (.ref a)):Okf P w K mg base 17 4 "storm_good" ["paper","book","hands","start"] Ycf:=by
 have all:∀j,Okf P w K mg base (5+j) 4 "storm_good" ["paper","book","hands","start"] (Yb1 j):=fun j=>by
  induction j with
  | zero=>exact Yne F (F.binds fun _ _ _ _ _ _ us hl=>by obtain⟨_,_,_,_,rfl⟩:=len4 hl;rfl) hm rfl
  | succ j ih=>exact Yl5 bl ua uy ih (Nat.le_add_right _ _) F hm
 exact all 12
abbrev Yrm:Stmt:=top 67
theorem y17:FnScope ["paper","book","hands","start","hand"] ["paper","book","hands","start","hand"] (defScope Yrm):=⟨rfl,rfl,rfl,by decide +kernel,rfl,by decide +kernel,by decide +kernel⟩
def Ywx:Ro→Option Out:=(sSeq (sIf (b2 (getC 4) (kD (.str "keeper")) (eqM false)) (sRet (cC (Yh (getV 0) (Yh (getV 1) (Yh (getV 2) (Yh (getV 3) aNil)))) Yb0)) sNil) (sRet (cC (Yh (getV 0) (Yh (getV 1) (Yh (getV 2) (Yh (getV 3) aNil)))) Ycf)))
def Yk7:List D→Option D:=runB 5 5 Ywx
theorem y18(bl:Bl K w mg)(uaq:Okf P w K mg base 18 4 "keeper_good" ["paper","book","hands","start"] Yb0)(ua3:Okf P w K mg base 17 4 "storm_good" ["paper","book","hands","start"] Ycf){a:Addr}{fd:FuncData}(F:Fun K "good" "good" Yrm a fd)(hm:mg "good"=some (.ref a)):Okf P w K mg base 19 5 "good" ["paper","book","hands","start","hand"] Yk7:=by
 refine Yak F (F.binds fun _ _ _ _ _ _ us hl=>by obtain⟨_,_,_,_,_,rfl⟩:=len5 hl;rfl) hm (Ys (k:=18) F y17 rfl rfl fun cdv A outer s H E hr=>?_)
 exact(Yk (Yal (Ybc hr.units (Ye 4) (Yd Yw)) (Yn (Yt (Ym uaq hr rfl (Yb (Yg 0) (Yb (Yg 1) (Yb (Yg 2) (Yb (Yg 3) Yl)))) (Yc (Yc (Yc (Yc (fun _ _ h=>Yo h)))))))) Yaa) (Yn (Yt (Ym ua3 hr rfl (Yb (Yg 0) (Yb (Yg 1) (Yb (Yg 2) (Yb (Yg 3) Yl)))) (Yc (Yc (Yc (Yc (fun _ _ h=>Yo h)))))))))
abbrev Yhq:Stmt:=top 69
theorem Yrn:FnScope ["script","k"] ["script","k"] (defScope Yhq):=⟨rfl,rfl,rfl,by decide +kernel,rfl,by decide +kernel,by decide +kernel⟩
def Yi3:Ro→Option Out:=(sSeq (sIf (b2 (getC 1) (cC (Yh (getC 0) aNil) lenC) ltI) (sRet (b2 (getC 0) (getC 1) ixD)) sNil) (sRet (kD (.int 0))))
def Ya5:List D→Option D:=runB 2 2 Yi3
theorem Yro(bl:Bl K w mg)  {a:Addr} {fd:FuncData} (F:Fun K "_law_cell" "_law_cell" Yhq a fd) (hm:mg "_law_cell"=some (.ref a)):Okf P w K mg base 1 2 "_law_cell" ["script","k"] Ya5:=by
 refine Yak F (F.binds fun _ _ _ _ _ _ us hl=>by obtain⟨_,_,rfl⟩:=len2 hl;rfl) hm (Ys (k:=0) F Yrn rfl rfl fun cdv A outer s H E hr=>?_)
 exact(Yk (Yal (Ysr (Ye 1) (Yd (Yae Yaj Ych rfl bl.Len PySem.boot_len (Yp (Ye 0) Yu)))) (Yn (Yt (Yj (Ye 0) (Ye 1)))) Yaa) (Yn (Yt Yi)))
abbrev Ygg:Stmt:=top 70
theorem Ypu:FnScope ["cell","by"] ["cell","by"] (defScope Ygg):=⟨rfl,rfl,rfl,by decide +kernel,rfl,by decide +kernel,by decide +kernel⟩
def Yk8:Ro→Option Out:=(sRet (b2 (b2 (b2 (getC 0) (kD (.int 2305843009213693951)) modI) (getC 1) mulI) (kD (.int 2305843009213693951)) modI))
def Yaw:List D→Option D:=runB 2 2 Yk8
theorem Ypv(bl:Bl K w mg)  {a:Addr} {fd:FuncData} (F:Fun K "_law_mixed" "_law_mixed" Ygg a fd) (hm:mg "_law_mixed"=some (.ref a)):Okf P w K mg base 1 2 "_law_mixed" ["cell","by"] Yaw:=by
 refine Yak F (F.binds fun _ _ _ _ _ _ us hl=>by obtain⟨_,_,rfl⟩:=len2 hl;rfl) hm (Ys (k:=0) F Ypu rfl rfl fun cdv A outer s H E hr=>?_)
 exact(Yn (Yt (Ybj (Yd (y1q (Yd (Ybj (Ye 0) (Yd Yi))) (Ye 1))) (Yd Yi))))
abbrev Yeq:Stmt:=top 71
theorem sc_law_hands:FnScope ["cell","many","left"] ["cell","many"] (defScope Yeq):=⟨rfl,rfl,rfl,by decide +kernel,rfl,by decide +kernel,by decide +kernel⟩
theorem cs_law_hands_0:CompSc ["cell","many","left"] (defScope Yeq) ["k","left"] [none,some 2] (fsc [(".0",.local),("k",.local),("left",.free)]):=Yy (by decide +kernel)
def Ydb:Ro→Option D:=(b2 (lF (dLst (Yh (kD (.str "keeper")) (Yh (kD (.str "storm")) aNil)))) (b2 (b2 (getC 1) (getC 0) shrI) (kD (.int 2)) modI) ixD)
def Yk9:Ro→Option Out:=(sSeq (sSet 2 (cC (Yh (getV 0) (Yh (kD (.int 1442695040888963407)) aNil)) Yaw)) (sRet (cC (Yh (lF (Ybs (cF (Yh (getV 1) aNil) rng1) [none,some 2] (gSet 0) tY (Ydb))) aNil) tupC)))
def Yc5:List D→Option D:=runB 2 3 Yk9
theorem Ypw(bl:Bl K w mg)(uc:Okf P w K mg base 1 2 "_law_mixed" ["cell","by"] Yaw){a:Addr}{fd:FuncData}(F:Fun K "_law_hands" "_law_hands" Yeq a fd)(hm:mg "_law_hands"=some (.ref a)):Okf P w K mg base 2 2 "_law_hands" ["cell","many"] Yc5:=by
 refine Yak F (F.binds fun _ _ _ _ _ _ us hl=>by obtain⟨_,_,rfl⟩:=len2 hl;rfl) hm (Ys (k:=1) F sc_law_hands rfl rfl fun cdv A outer s H E hr=>?_)
 exact(Yk (Yah 2 sc_law_hands.nd (Ym uc hr rfl (Yb (Yg 0) (Yb Yi Yl)) (Yc (Yc (fun _ _ h=>Yo h))))) (Yn (Yt (Yas Yag Ycj rfl bl.Tuple boot_tuple (Yp (Yd (Yz (Yan cs_law_hands_0 rfl (Ye5 rfl bl.Range (Yb (Yg 1) Yl)) (fun _ _ _ _ _=>(Yab 0 cs_law_hands_0.nd)) (fun _ _ _ _ _=>Ya8) (fun _ _ _ _ _=>(Yj (Yd (Yz (Yd0 (Yb Yw (Yb Yw Yl))))) (Yd (Ybj (Yd (Ywi (Ye 1) (Ye 0))) (Yd Yi))))) (Yar (i:=0) rfl)))) Yu)))))
abbrev Yft:Stmt:=top 73
theorem sc_law_rule:FnScope ["kind","cell","start","many","left","size","picked","k"] ["kind","cell","start","many"] (defScope Yft):=⟨rfl,rfl,rfl,by decide +kernel,rfl,by decide +kernel,by decide +kernel⟩
theorem cs_law_rule_0:CompSc ["kind","cell","start","many","left","size","picked","k"] (defScope Yft) ["k","picked","left"] [none,some 6,some 4] (fsc [(".0",.local),("k",.local),("left",.free),("picked",.free)]):=Yy (by decide +kernel)
def Ycr:Ro→Option Out:=(sSeq (sIf (b2 (b2 (getC 2) (b2 (getC 4) (b2 (getC 3) (getC 2) subI) modI) addI) (getC 6) (inM true)) (sMut 6 (b2 (getC 2) (b2 (getC 4) (b2 (getC 3) (getC 2) subI) modI) addI) appD) sNil) (sSet 4 (b2 (getC 4) (b2 (getC 3) (getC 2) subI) divI)))
def Ydt:Ro→Option D:=(dTup (Yh (b2 (getC 1) (getC 0) ixD) (Yh (mB (b2 (b2 (b2 (getC 2) (getC 0) shrI) (kD (.int 2)) modI) (kD (.int 1)) (eqM false))) aNil)))
@[simp] def Yn0:Ro→Option Out:=(sRet (dTup (Yh (cC (Yh (lF (cF (Yh (getC 6) aNil) Ynd)) aNil) tupC) (Yh (b2 (getC 2) (b2 (b2 (getC 4) (kD (.int 4)) divI) (b2 (getC 3) (getC 2) subI) modI) addI) aNil))))
@[simp] def Ypx:Ro→Option Out:=(sSeq (sIf (b2 (b2 (getC 4) (kD (.int 4)) modI) (kD (.int 1)) (eqM false)) (sOwn 6 (slF (getC 6) (some (kD (.int 1))) none)) sNil) Yn0)
@[simp] def Ypy:Ro→Option Out:=(sSeq (sIf (b2 (b2 (getC 4) (kD (.int 4)) modI) (kD (.int 0)) (eqM false)) (sRet (dTup (Yh (cC (Yh (lF (cF (Yh (getC 6) aNil) Ynd)) aNil) tupC) (Yh (kD .non) aNil)))) sNil) Ypx)
@[simp] def Ypz:Ro→Option Out:=(sSeq (sIf (b2 (getC 0) (kD (.str "sums")) (eqM false)) (sRet (dTup (Yh (cC (Yh (lF (cF (Yh (getC 6) aNil) Ynd)) aNil) tupC) (Yh (mB (b2 (b2 (getC 4) (kD (.int 2)) modI) (kD (.int 1)) (eqM false))) aNil)))) sNil) Ypy)
@[simp] def Yp0:Ro→Option Out:=(sSeq (sIf (b2 (getC 0) (kD (.str "eithers")) (eqM false)) (wF [6] (sRet (cC (Yh (lF (cF (Yh (lF (Ybs (cF (Yh (cC (Yh (getC 6) aNil) lenC) aNil) rng1) [none,some 6,some 4] (gSet 0) tY (Ydt))) aNil) Ynd)) aNil) tupC))) sNil) Ypz)
@[simp] def Yp1:Ro→Option Out:=(sSeq (sFor (cF (Yh (getV 5) aNil) rng1) (gSet 7) Ycr) Yp0)
@[simp] def Yp2:Ro→Option Out:=(sSeq (sOwn 6 (dLst aNil)) Yp1)
@[simp] def Yp3:Ro→Option Out:=(sSeq (sSet 4 (b2 (getC 4) (kD (.int 8)) divI)) Yp2)
@[simp] def Yp4:Ro→Option Out:=(sSeq (sIf (b2 (getC 0) (kD (.str "eithers")) (eqM false)) (sSet 5 (cC (Yh (getC 5) (Yh (kD (.int 2)) aNil)) minC)) sNil) Yp3)
@[simp] def Yp5:Ro→Option Out:=(sSeq (sSet 5 (b2 (lF (Ykh [1,2,2,2,1,2,3,4])) (b2 (getC 4) (kD (.int 8)) modI) ixD)) Yp4)
def Ydw:Ro→Option Out:=(sSeq (sSet 4 (cC (Yh (getV 1) (Yh (kD (.int 1181783497276652981)) aNil)) Yaw)) Yp5)
def Yfb:List D→Option D:=runB 4 8 Ydw
theorem Yrp(bl:Bl K w mg)(uc:Okf P w K mg base 1 2 "_law_mixed" ["cell","by"] Yaw){a:Addr}{fd:FuncData}(F:Fun K "_law_rule" "_law_rule" Yft a fd)(hm:mg "_law_rule"=some (.ref a)):Okf P w K mg base 2 4 "_law_rule" ["kind","cell","start","many"] Yfb:=by
 refine Yak F (F.binds fun _ _ _ _ _ _ us hl=>by obtain⟨_,_,_,_,rfl⟩:=len4 hl;rfl) hm (Ys (k:=1) F sc_law_rule rfl rfl fun cdv A outer s H E hr=>?_)
 exact(Yk (Yah 4 sc_law_rule.nd (Ym uc hr rfl (Yb (Yg 1) (Yb Yi Yl)) (Yc (Yc (fun _ _ h=>Yo h))))) (Yk (Yyi _ _ _ _ _ _ 5 _ _ _ [1,2,2,2,1,2,3,4] sc_law_rule.nd (by decide +kernel) rfl (by first | exact Or.inl rfl | exact Or.inr rfl) (by first | exact .inl rfl | exact .inr rfl) (by intro _ _;rfl) (Yd (Ybj (Ye 4) (Yd Yi)))) (Yk (Yal (Ybc hr.units (Ye 0) (Yd Yw)) (Yn (Yah 5 sc_law_rule.nd (Yae (Yop rfl) Yv6 rfl bl.Min boot_min (Yp (Ye 5) (Yp (Yd Yi) Yu))))) Yaa) (Yk (Yah 4 sc_law_rule.nd (Yhf (Ye 4) (Yd Yi))) (Yk (Yfh 6 sc_law_rule.nd (Yd0 Yl)) (Yk (Yiw PassesOwn.never rfl (Ye5 rfl bl.Range (Yb (Yg 5) Yl)) (Yab 7 sc_law_rule.nd) (Yk (Yal (Ywd hr.units (Yd (Yf5 (Ye 2) (Yd (Ybj (Ye 4) (Yd (Ykk (Ye 3) (Ye 2))))))) (Ye 6)) (Yn (Ydv 6 (Yf5 (Ye 2) (Yd (Ybj (Ye 4) (Yd (Ykk (Ye 3) (Ye 2)))))))) Yaa) (Yn (Yah 4 sc_law_rule.nd (Yhf (Ye 4) (Yd (Ykk (Ye 3) (Ye 2)))))))) (Yk (Yal (Ybc hr.units (Ye 0) (Yd Yw)) (Yn (Yni [6] (Yt (Yas Yag Ycj rfl bl.Tuple boot_tuple (Yp (Yd (Yz (Yf4 Yek Yff rfl bl.Sorted boot_sorted (Yp (Yd (Yz (Yan cs_law_rule_0 rfl (Ye5 rfl bl.Range (Yb (Yae Yaj Ych rfl bl.Len PySem.boot_len (Yp (Ye 6) Yu)) Yl)) (fun _ _ _ _ _=>(Yab 0 cs_law_rule_0.nd)) (fun _ _ _ _ _=>Ya8) (fun _ _ _ _ _=>(Ybd (Yb (Yj (Ye 1) (Ye 0)) (Yb (Yem hr.units (Yd (Ybj (Yd (Ywi (Ye 2) (Ye 0))) (Yd Yi))) (Yd Yi)) Yl)))) (Yar (i:=0) rfl)))) Yu)))) Yu))))) Yaa) (Yk (Yal (Ybc hr.units (Ye 0) (Yd Yw)) (Yn (Yt (Ybd (Yb (Yas Yag Ycj rfl bl.Tuple boot_tuple (Yp (Yd (Yz (Yf4 Yek Yff rfl bl.Sorted boot_sorted (Yp (Ye 6) Yu)))) Yu)) (Yb (Yem hr.units (Yd (Ybj (Ye 4) (Yd Yi))) (Yd Yi)) Yl))))) Yaa) (Yk (Yal (Ybc hr.units (Yd (Ybj (Ye 4) (Yd Yi))) (Yd Yi)) (Yn (Yt (Ybd (Yb (Yas Yag Ycj rfl bl.Tuple boot_tuple (Yp (Yd (Yz (Yf4 Yek Yff rfl bl.Sorted boot_sorted (Yp (Ye 6) Yu)))) Yu)) (Yb Yb3 Yl))))) Yaa) (Yk (Yal (Ybc hr.units (Yd (Ybj (Ye 4) (Yd Yi))) (Yd Yi)) (Yn (Yfh 6 sc_law_rule.nd (Ykm (fl:=(some (kD (.int 1)))) (fh:=none) (Ye 6) (Ykn (Yd Yi)) Ypm))) Yaa) (Yn (Yt (Ybd (Yb (Yas Yag Ycj rfl bl.Tuple boot_tuple (Yp (Yd (Yz (Yf4 Yek Yff rfl bl.Sorted boot_sorted (Yp (Ye 6) Yu)))) Yu)) (Yb (Yf5 (Ye 2) (Yd (Ybj (Yd (Yhf (Ye 4) (Yd Yi))) (Yd (Ykk (Ye 3) (Ye 2)))))) Yl)))))))))))))))
abbrev Ydk:Stmt:=top 74
theorem Yp6:FnScope ["part"] ["part"] (defScope Ydk):=⟨rfl,rfl,rfl,by decide +kernel,rfl,by decide +kernel,by decide +kernel⟩
theorem cs_law_plain_0:CompSc ["part"] (defScope Ydk) ["one"] [none] (fsc [(".0",.local),("one",.local),("_law_plain",.globalImplicit)]):=Yy (by decide +kernel)
def Ye0(rec:List D→Option D):Ro→Option D:=(cC (Yh (getV 0) aNil) rec)
def Yef(rec:List D→Option D):Ro→Option Out:=(sSeq (sIf (b1 (mB (b1 (getC 0) (isiD "tuple"))) truD) (sRet (cC (Yh (lF (Ybs (b1 (getV 0) Yr) [none] (gSet 0) tY (Ye0 rec))) aNil) allC)) sNil) (sRet (orV (mB (b2 (getC 0) (kD .non) (isN false))) (orV (mB (b1 (getC 0) (isiD "str"))) (mB (b1 (getC 0) (isiD "int")))))))
def Yaf:Nat→List D→Option D
 | 0=>fun _=>none
 | k+1=>runB 1 1 (Yef (Yaf k))
def Yc6:List D→Option D:=Yaf 12
theorem Yn1(bl:Bl K w mg)  {k j:Nat} (rc:Okf P w K mg base k 1 "_law_plain" ["part"] (Yaf j)) (hk:0≤k) {a:Addr} {fd:FuncData} (F:Fun K "_law_plain" "_law_plain" Ydk a fd) (hm:mg "_law_plain"=some (.ref a)):Okf P w K mg base (k+1) 1 "_law_plain" ["part"] (Yaf (j+1)):=by
 refine Yak F (F.binds fun _ _ _ _ _ _ us hl=>by obtain⟨_,rfl⟩:=len1 hl;rfl) hm (Ys (k:=k) F Yp6 rfl rfl fun cdv A outer s H E hr=>?_)
 exact(Yk (Yal (Ybt (Yd (Yhh (Ye 0) rfl rfl bl.Isinstance bl.Tuple boot_tuple (Yka)))) (Yn (Yt (Yae (Ydd rfl) Yf2 rfl bl.All boot_all (Yp (Yd (Yz (Yan cs_law_plain_0 rfl (Yau (Yg 0)) (fun _ _ _ _ _=>(Yab 0 cs_law_plain_0.nd)) (fun _ _ _ _ _=>Ya8) (fun _ _ _ _ _=>(Ym rc hr rfl (Yb (Yg 0) Yl) (Yc (fun _ _ h=>Yo h)))) (Yar (i:=0) rfl)))) Yu)))) Yaa) (Yn (Yt (Ywf (y1r (Ye 0) (Yd Yb3)) (Ywf (Yhh (Ye 0) rfl rfl bl.Isinstance bl.Str boot_str (y06)) (Ywe (Yhh (Ye 0) rfl rfl bl.Isinstance bl.Int boot_int (y05))))))))
theorem Yp7(bl:Bl K w mg)  {a:Addr} {fd:FuncData} (F:Fun K "_law_plain" "_law_plain" Ydk a fd) (hm:mg "_law_plain"=some (.ref a)):Okf P w K mg base 12 1 "_law_plain" ["part"] Yc6:=by
 have all:∀j,Okf P w K mg base (0+j) 1 "_law_plain" ["part"] (Yaf j):=fun j=>by
  induction j with
  | zero=>exact Yne F (F.binds fun _ _ _ _ _ _ us hl=>by obtain⟨_,rfl⟩:=len1 hl;rfl) hm rfl
  | succ j ih=>exact Yn1 bl  ih (Nat.le_add_right _ _) F hm
 exact all 12
abbrev Ybm:Stmt:=top 75
theorem Yn2:FnScope ["paper"] ["paper"] (defScope Ybm):=⟨rfl,rfl,rfl,by decide +kernel,rfl,by decide +kernel,by decide +kernel⟩
theorem cs_law_truths_0:CompSc ["paper"] (defScope Ybm) ["row"] [none] (fsc [(".0",.local),("row",.local),("isinstance",.globalImplicit),("bool",.globalImplicit)]):=Yy (by decide +kernel)
theorem cs_law_truths_1:CompSc ["paper"] (defScope Ybm) ["road"] [none] (fsc [(".0",.local),("road",.local),("all",.globalImplicit)]):=Yy (by decide +kernel)
theorem Yla(env:Env)(h:env.scope=defScope Ybm):relabel (fsc [(".0",.local),("road",.local),("all",.globalImplicit)]) env=(fsc [(".0",.local),("road",.local),("all",.globalImplicit)]):=by unfold relabel Env.kindOf;rw[h];rfl
theorem Ylb:(["saying"]:List Str).Nodup:=by decide +kernel
theorem Ylc(env:Env)(h:env.scope=defScope Ybm):CompSc ["road"] (relabel (fsc [(".0",.local),("road",.local),("all",.globalImplicit)]) env) ["saying"] [none] (fsc [(".0",.local),("saying",.local),("isinstance",.globalImplicit),("bool",.globalImplicit)]):=by rw[Yla env h];exact Yy (by decide +kernel)
def Yld:Ro→Option D:=(mB (b1 (b2 (getC 0) (kD (.int 2)) ixD) (isiD "bool")))
def Yle:Ro→Option D:=(mB (b1 (b2 (getC 0) (kD (.int 1)) ixD) (isiD "bool")))
def Ylf:Ro→Option D:=(cC (Yh (lF (Ybs (b1 (getV 0) Yr) [none] (gSet 0) tY (Yle))) aNil) allC)
@[simp] def Yl6:Ro→Option Out:=(sRet (kD (.bl true)))
@[simp] def Yl7:Ro→Option Out:=(sSeq (sIf (b2 (b2 (getC 0) (kD (.int 0)) ixD) (lF (dLst (Yh (kD (.str "clash")) (Yh (kD (.str "cross")) (Yh (kD (.str "late")) aNil))))) (inM false)) (sRet (cC (Yh (lF (Ybs (b1 (lF (slF (getC 0) (some (kD (.int 1))) none)) Yr) [none] (gSet 0) tY (Ylf))) aNil) allC)) sNil) Yl6)
def Ygh:Ro→Option Out:=(sSeq (sIf (orT (b2 (b2 (getC 0) (kD (.int 0)) ixD) (kD (.str "plan")) (eqM false)) (b2 (b2 (getC 0) (kD (.int 0)) ixD) (kD (.str "sums")) (eqM false))) (sRet (cC (Yh (lF (Ybs (b1 (b2 (getC 0) (kD (.int 1)) ixD) Yr) [none] (gSet 0) tY (Yld))) aNil) allC)) sNil) Yl7)
def Ybh:List D→Option D:=runB 1 1 Ygh
theorem Yn3(bl:Bl K w mg)  {a:Addr} {fd:FuncData} (F:Fun K "_law_truths" "_law_truths" Ybm a fd) (hm:mg "_law_truths"=some (.ref a)):Okf P w K mg base 1 1 "_law_truths" ["paper"] Ybh:=by
 refine Yak F (F.binds fun _ _ _ _ _ _ us hl=>by obtain⟨_,rfl⟩:=len1 hl;rfl) hm (Ys (k:=0) F Yn2 rfl rfl fun cdv A outer s H E hr=>?_)
 exact(Yk (Yal (Yd2 (Yjb (Ybc hr.units (Yd (Yj (Ye 0) (Yd Yi))) (Yd Yw)) (Ykl (Ybc hr.units (Yd (Yj (Ye 0) (Yd Yi))) (Yd Yw))))) (Yn (Yt (Yae (Ydd rfl) Yf2 rfl bl.All boot_all (Yp (Yd (Yz (Yan cs_law_truths_0 rfl (Yau (Yj (Ye 0) (Yd Yi))) (fun _ _ _ _ _=>(Yab 0 cs_law_truths_0.nd)) (fun _ _ _ _ _=>Ya8) (fun _ _ _ _ _=>(Yhh (Yd (Yj (Ye 0) (Yd Yi))) rfl rfl bl.Isinstance bl.Bool boot_bool (Ysl))) (Yar (i:=0) rfl)))) Yu)))) Yaa) (Yk (Yal (Yss hr.units (Yd (Yj (Ye 0) (Yd Yi))) (Yd (Yz (Yd0 (Yb Yw (Yb Yw (Yb Yw Yl))))))) (Yn (Yt (Yae (Ydd rfl) Yf2 rfl bl.All boot_all (Yp (Yd (Yz (Yan cs_law_truths_1 rfl (Yau (Yz (Ykm (fl:=(some (kD (.int 1)))) (fh:=none) (Ye 0) (Ykn (Yd Yi)) Ypm))) (fun _ _ _ _ _=>(Yab 0 cs_law_truths_1.nd)) (fun _ _ _ _ _=>Ya8) (fun _ _ _ _ _=>(Yae (Ydd rfl) Yf2 rfl bl.All boot_all (Yp (Yd (Yz (Yan (Ylc _ rfl) rfl (Yau (Yg 0)) (fun _ _ _ _ _=>(Yab 0 Ylb)) (fun _ _ _ _ _=>Ya8) (fun _ _ _ _ _=>(Yhh (Yd (Yj (Ye 0) (Yd Yi))) rfl rfl bl.Isinstance bl.Bool boot_bool (Ysl))) (Yar (i:=0) rfl)))) Yu))) (Yar (i:=0) rfl)))) Yu)))) Yaa) (Yn (Yt Yde))))
abbrev Yhr:Stmt:=top 76
theorem Yrq:FnScope ["found","book","hands","start"] ["found","book","hands","start"] (defScope Yhr):=⟨rfl,rfl,rfl,by decide +kernel,rfl,by decide +kernel,by decide +kernel⟩
@[simp] def Yp8:Ro→Option Out:=(sRet (mB (b2 (cC (Yh (b2 (getC 0) (kD (.int 1)) ixD) (Yh (getV 1) (Yh (getV 2) (Yh (getV 3) (Yh (b2 (getC 0) (kD (.int 0)) ixD) aNil))))) Yk7) (kD (.bl true)) (isB false))))
@[simp] def Yp9:Ro→Option Out:=(sSeq (sIf (orT (andT (b2 (b2 (getC 0) (kD (.int 0)) ixD) (kD (.str "keeper")) (eqM true)) (b2 (b2 (getC 0) (kD (.int 0)) ixD) (kD (.str "storm")) (eqM true))) (orT (notT (b1 (cC (Yh (b2 (getC 0) (kD (.int 1)) ixD) aNil) Yc6) truD)) (notT (b1 (cC (Yh (b2 (getC 0) (kD (.int 1)) ixD) aNil) Ybh) truD)))) (sRet (kD (.bl false))) sNil) Yp8)
def Yi4:Ro→Option Out:=(sSeq (sIf (orT (notT (b1 (mB (b1 (getC 0) (isiD "tuple"))) truD)) (orT (b2 (cC (Yh (getC 0) aNil) lenC) (kD (.int 2)) (eqM true)) (notT (b1 (mB (b1 (b2 (getC 0) (kD (.int 1)) ixD) (isiD "tuple"))) truD)))) (sRet (kD (.bl false))) sNil) Yp9)
def Ybp:List D→Option D:=runB 4 4 Yi4
theorem Yrr(bl:Bl K w mg)(ubw:Okf P w K mg base 12 1 "_law_plain" ["part"] Yc6)(ua4:Okf P w K mg base 1 1 "_law_truths" ["paper"] Ybh)(ud6:Okf P w K mg base 19 5 "good" ["paper","book","hands","start","hand"] Yk7){a:Addr}{fd:FuncData}(F:Fun K "_law_good" "_law_good" Yhr a fd)(hm:mg "_law_good"=some (.ref a)):Okf P w K mg base 20 4 "_law_good" ["found","book","hands","start"] Ybp:=by
 refine Yak F (F.binds fun _ _ _ _ _ _ us hl=>by obtain⟨_,_,_,_,rfl⟩:=len4 hl;rfl) hm (Ys (k:=19) F Yrq rfl rfl fun cdv A outer s H E hr=>?_)
 exact(Yk (Yal (Yd2 (Yjb (Ycw (Ybt (Yd (Yhh (Ye 0) rfl rfl bl.Isinstance bl.Tuple boot_tuple (Yka))))) (Yjb (Ymm hr.units (Yd (Yae Yaj Ych rfl bl.Len PySem.boot_len (Yp (Ye 0) Yu))) (Yd Yi)) (Ykl (Ycw (Ybt (Yd (Yhh (Yd (Yj (Ye 0) (Yd Yi))) rfl rfl bl.Isinstance bl.Tuple boot_tuple (Yka))))))))) (Yn (Yt Yde)) Yaa) (Yk (Yal (Yd2 (Yjb (Yd2 (Ydz (Ymm hr.units (Yd (Yj (Ye 0) (Yd Yi))) (Yd Yw)) (Yc8 (Ymm hr.units (Yd (Yj (Ye 0) (Yd Yi))) (Yd Yw))))) (Yjb (Ycw (Ybt (Yd (Ym ubw hr rfl (Yb (Yj (Ye 0) (Yd Yi)) Yl) (Yc (fun _ _ h=>Yo h)))))) (Ykl (Ycw (Ybt (Yd (Ym ua4 hr rfl (Yb (Yj (Ye 0) (Yd Yi)) Yl) (Yc (fun _ _ h=>Yo h)))))))))) (Yn (Yt Yde)) Yaa) (Yn (Yt (y1t (Yd (Ym ud6 hr rfl (Yb (Yj (Ye 0) (Yd Yi)) (Yb (Yg 1) (Yb (Yg 2) (Yb (Yg 3) (Yb (Yj (Ye 0) (Yd Yi)) Yl))))) (Yc (Yc (Yc (Yc (Yc (fun _ _ h=>Yo h)))))))) (Yd Yde))))))
abbrev Ydl:Stmt:=top 77
theorem sc_law_drawn:FnScope ["kind","script","many","start","hands","way","more","far","rules"] ["kind","script"] (defScope Ydl):=⟨rfl,rfl,rfl,by decide +kernel,rfl,by decide +kernel,by decide +kernel⟩
theorem cs_law_drawn_0:CompSc ["kind","script","many","start","hands","way","more","far","rules"] (defScope Ydl) ["k","hands","more"] [none,some 4,some 6] (fsc [(".0",.local),("k",.local),("int",.globalImplicit),("hands",.free),("more",.free)]):=Yy (by decide +kernel)
theorem cs_law_drawn_1:CompSc ["kind","script","many","start","hands","way","more","far","rules"] (defScope Ydl) ["cell","kind","start","far"] [none,some 0,some 3,some 7] (fsc [(".0",.local),("cell",.local),("_law_rule",.globalImplicit),("far",.free),("kind",.free),("start",.free)]):=Yy (by decide +kernel)
def Ye1:Ro→Option D:=(b2 (lF (dLst (Yh (kD (.str "storm")) (Yh (kD (.str "keeper")) aNil)))) (cC (Yh (orV (mB (b2 (b2 (getC 1) (getC 0) ixD) (kD (.str "keeper")) (eqM false))) (mB (b2 (b2 (getC 2) (getC 0) ixD) (kD (.str "keeper")) (eqM false)))) aNil) intC) ixD)
def Ye2:Ro→Option D:=(cC (Yh (getV 1) (Yh (getV 0) (Yh (getV 2) (Yh (getV 3) aNil)))) Yfb)
@[simp] def Yn4:Ro→Option Out:=(sRet (lF (dLst (Yh (dTup (Yh (getV 0) (Yh (cC (Yh (getC 8) aNil) tupC) aNil))) (Yh (getV 4) (Yh (getV 3) aNil))))))
@[simp] def Yn5:Ro→Option Out:=(sSeq (sOwn 8 (Ybs (b1 (lF (slF (getC 1) (some (kD (.int 4))) (some (b2 (kD (.int 4)) (b2 (b2 (getC 5) (kD (.int 32)) divI) (kD (.int 41)) modI) addI)))) Yr) [none,some 0,some 3,some 7] (gSet 0) tY (Ye2))) Yn4)
@[simp] def Ydu:Ro→Option Out:=(sSeq (sSet 7 (cC (Yh (getC 2) (Yh (b2 (getC 3) (b2 (lF (Ykh [60,60,60,3,6,12,6,12,6])) (b2 (b2 (getC 5) (kD (.int 3)) divI) (kD (.int 9)) modI) ixD) addI) aNil)) minC)) Yn5)
@[simp] def Yb2:Ro→Option Out:=(sSeq (sIf (b2 (b2 (getC 5) (kD (.int 3)) modI) (kD (.int 0)) (eqM false)) (sSeq (sSet 6 (cC (Yh (cC (Yh (getV 1) (Yh (kD (.int 3)) aNil)) Ya5) (Yh (getV 2) aNil)) Yc5)) (sSet 4 (cC (Yh (lF (Ybs (cF (Yh (getV 2) aNil) rng1) [none,some 4,some 6] (gSet 0) tY (Ye1))) aNil) tupC))) sNil) Ydu)
@[simp] def Yn6:Ro→Option Out:=(sSeq (sSet 5 (cC (Yh (cC (Yh (getV 1) (Yh (kD (.int 2)) aNil)) Ya5) (Yh (kD (.int 1865811235122147685)) aNil)) Yaw)) Yb2)
@[simp] def Yn7:Ro→Option Out:=(sSeq (sSet 4 (cC (Yh (cC (Yh (getV 1) (Yh (kD (.int 1)) aNil)) Ya5) (Yh (getV 2) aNil)) Yc5)) Yn6)
@[simp] def Yn8:Ro→Option Out:=(sSeq (sSet 3 (b2 (b2 (cC (Yh (getV 1) (Yh (kD (.int 0)) aNil)) Ya5) (kD (.int 60)) divI) (getC 2) modI)) Yn7)
def Yhs:Ro→Option Out:=(sSeq (sSet 2 (b2 (kD (.int 1)) (b2 (cC (Yh (getV 1) (Yh (kD (.int 0)) aNil)) Ya5) (kD (.int 60)) modI) addI)) Yn8)
def Yc7:List D→Option D:=runB 2 9 Yhs
theorem Yqa(bl:Bl K w mg)(ud:Okf P w K mg base 1 2 "_law_cell" ["script","k"] Ya5)(xa:Okf P w K mg base 2 2 "_law_hands" ["cell","many"] Yc5)(uc:Okf P w K mg base 1 2 "_law_mixed" ["cell","by"] Yaw)(uct:Okf P w K mg base 2 4 "_law_rule" ["kind","cell","start","many"] Yfb){a:Addr}{fd:FuncData}(F:Fun K "_law_drawn" "_law_drawn" Ydl a fd)(hm:mg "_law_drawn"=some (.ref a)):Okf P w K mg base 3 2 "_law_drawn" ["kind","script"] Yc7:=by
 refine Yak F (F.binds fun _ _ _ _ _ _ us hl=>by obtain⟨_,_,rfl⟩:=len2 hl;rfl) hm (Ys (k:=2) F sc_law_drawn rfl rfl fun cdv A outer s H E hr=>?_)
 exact(Yk (Yah 2 sc_law_drawn.nd (Yf5 (Yd Yi) (Yd (Ybj (Yd (Ym ud hr rfl (Yb (Yg 1) (Yb Yi Yl)) (Yc (Yc (fun _ _ h=>Yo h))))) (Yd Yi))))) (Yk (Yah 3 sc_law_drawn.nd (Ybj (Yd (Yhf (Yd (Ym ud hr rfl (Yb (Yg 1) (Yb Yi Yl)) (Yc (Yc (fun _ _ h=>Yo h))))) (Yd Yi))) (Ye 2))) (Yk (Yah 4 sc_law_drawn.nd (Ym xa hr rfl (Yb (Ym ud hr rfl (Yb (Yg 1) (Yb Yi Yl)) (Yc (Yc (fun _ _ h=>Yo h)))) (Yb (Yg 2) Yl)) (Yc (Yc (fun _ _ h=>Yo h))))) (Yk (Yah 5 sc_law_drawn.nd (Ym uc hr rfl (Yb (Ym ud hr rfl (Yb (Yg 1) (Yb Yi Yl)) (Yc (Yc (fun _ _ h=>Yo h)))) (Yb Yi Yl)) (Yc (Yc (fun _ _ h=>Yo h))))) (Yk (Yal (Ybc hr.units (Yd (Ybj (Ye 5) (Yd Yi))) (Yd Yi)) (Yk (Yah 6 sc_law_drawn.nd (Ym xa hr rfl (Yb (Ym ud hr rfl (Yb (Yg 1) (Yb Yi Yl)) (Yc (Yc (fun _ _ h=>Yo h)))) (Yb (Yg 2) Yl)) (Yc (Yc (fun _ _ h=>Yo h))))) (Yn (Yah 4 sc_law_drawn.nd (Yas Yag Ycj rfl bl.Tuple boot_tuple (Yp (Yd (Yz (Yan cs_law_drawn_0 rfl (Ye5 rfl bl.Range (Yb (Yg 2) Yl)) (fun _ _ _ _ _=>(Yab 0 cs_law_drawn_0.nd)) (fun _ _ _ _ _=>Ya8) (fun _ _ _ _ _=>(Yj (Yd (Yz (Yd0 (Yb Yw (Yb Yw Yl))))) (Yd (Yas Yup y0w rfl bl.Int boot_int (Yp (Yd (Ywf (Yem hr.units (Yd (Yj (Ye 1) (Ye 0))) (Yd Yw)) (Ywe (Yem hr.units (Yd (Yj (Ye 2) (Ye 0))) (Yd Yw))))) Yu))))) (Yar (i:=0) rfl)))) Yu))))) Yaa) (Yk (Yah 7 sc_law_drawn.nd (Yae (Yop rfl) Yv6 rfl bl.Min boot_min (Yp (Ye 2) (Yp (Yd (Yf5 (Ye 3) (Yd (Yj (Yd (Yz (Yyh [60,60,60,3,6,12,6,12,6]))) (Yd (Ybj (Yd (Yhf (Ye 5) (Yd Yi))) (Yd Yi))))))) Yu)))) (Yk (Yh5 8 sc_law_drawn.nd cs_law_drawn_1 rfl (Yau (Yz (Ykm (fl:=(some (kD (.int 4)))) (fh:=(some (b2 (kD (.int 4)) (b2 (b2 (getC 5) (kD (.int 32)) divI) (kD (.int 41)) modI) addI))) (Ye 1) (Ykn (Yd Yi)) (Ykn (Yd (Yf5 (Yd Yi) (Yd (Ybj (Yd (Yhf (Ye 5) (Yd Yi))) (Yd Yi))))))))) (fun _ _ _ _ _=>(Yab 0 cs_law_drawn_1.nd)) (fun _ _ _ _ _=>Ya8) (fun _ _ _ _ _=>(Ym uct hr rfl (Yb (Yg 1) (Yb (Yg 0) (Yb (Yg 2) (Yb (Yg 3) Yl)))) (Yc (Yc (Yc (Yc (fun _ _ h=>Yo h))))))) (Yar (i:=0) rfl)) (Yn (Yt (Yz (Yd0 (Yb (Ybd (Yb (Yg 0) (Yb (Yas Yag Ycj rfl bl.Tuple boot_tuple (Yp (Ye 8) Yu)) Yl))) (Yb (Yg 4) (Yb (Yg 3) Yl))))))))))))))
abbrev Ycb:Stmt:=top 78
theorem sc_law_following:FnScope ["rules","hands","start","pick","more","rule","beacon","other","body"] ["rules","hands","start","pick"] (defScope Ycb):=⟨rfl,rfl,rfl,by decide +kernel,rfl,by decide +kernel,by decide +kernel⟩
theorem cs_law_following_0:CompSc ["rules","hands","start","pick","more","rule","beacon","other","body"] (defScope Ycb) ["one","rule"] [none,some 5] (fsc [(".0",.local),("one",.local),("rule",.free)]):=Yy (by decide +kernel)
def Ycs:Ro→Option Bool:=(b2 (getC 0) (b2 (getC 1) (kD (.int 1)) ixD) (eqM true))
def Yct:Ro→Option D:=(getV 0)
def Yaq:Ro→Option Out:=(sIf (andT (b2 (b2 (getC 5) (kD (.int 1)) ixD) (kD .non) (isN true)) (andT (b2 (b2 (getC 5) (kD (.int 1)) ixD) (b2 (getC 7) (kD (.int 0)) ixD) (inM false)) (b2 (cC (Yh (getC 4) aNil) lenC) (kD (.int 8)) ltI))) (sSeq (sOwn 8 (Ybs (b1 (b2 (getC 7) (kD (.int 0)) ixD) Yr) [none,some 5] (gSet 0) (Ycs) (Yct))) (sMut 4 (dTup (Yh (cC (Yh (lF (Yel (lF (b2 (getC 8) (lF (cF (Yh (b2 (getC 5) (kD (.int 0)) ixD) aNil) Yfe)) catD)))) aNil) tupC) (Yh (b2 (getC 7) (kD (.int 1)) ixD) aNil))) appD)) sNil)
@[simp] def Yi5:Ro→Option Out:=(sRet (cC (Yh (getC 4) aNil) tupC))
@[simp] def Yi6:Ro→Option Out:=(sSeq (sIf (b2 (cC (Yh (getC 0) aNil) lenC) (kD (.int 0)) gtI) (sSeq (sSet 5 (b2 (getC 0) (b2 (getC 3) (cC (Yh (getC 0) aNil) lenC) modI) ixD)) (sSeq (sSet 6 (b2 (getC 2) (b2 (b2 (getC 3) (kD (.int 64)) divI) (b2 (cC (Yh (getC 1) aNil) lenC) (getC 2) subI) modI) addI)) (sSeq (sMut 4 (dTup (Yh (cC (Yh (lF (Yel (lF (b2 (lF (cF (Yh (b2 (getC 5) (kD (.int 0)) ixD) aNil) Yfe)) (lF (dLst (Yh (getV 6) aNil))) catD)))) aNil) tupC) (Yh (b2 (getC 5) (kD (.int 1)) ixD) aNil))) appD) (sFor (b1 (getV 0) Yr) (gSet 7) Yaq)))) sNil) Yi5)
def Yeg:Ro→Option Out:=(sSeq (sOwn 4 (dLst aNil)) Yi6)
def Ya2:List D→Option D:=runB 4 9 Yeg
theorem Yjq(bl:Bl K w mg)  {a:Addr} {fd:FuncData} (F:Fun K "_law_following" "_law_following" Ycb a fd) (hm:mg "_law_following"=some (.ref a)):Okf P w K mg base 1 4 "_law_following" ["rules","hands","start","pick"] Ya2:=by
 refine Yak F (F.binds fun _ _ _ _ _ _ us hl=>by obtain⟨_,_,_,_,rfl⟩:=len4 hl;rfl) hm (Ys (k:=0) F sc_law_following rfl rfl fun cdv A outer s H E hr=>?_)
 exact(Yk (Yfh 4 sc_law_following.nd (Yd0 Yl)) (Yk (Yal (y41 (Yd (Yae Yaj Ych rfl bl.Len PySem.boot_len (Yp (Ye 0) Yu))) (Yd Yi)) (Yk (Yah 5 sc_law_following.nd (Yj (Ye 0) (Yd (Ybj (Ye 3) (Yd (Yae Yaj Ych rfl bl.Len PySem.boot_len (Yp (Ye 0) Yu))))))) (Yk (Yah 6 sc_law_following.nd (Yf5 (Ye 2) (Yd (Ybj (Yd (Yhf (Ye 3) (Yd Yi))) (Yd (Ykk (Yd (Yae Yaj Ych rfl bl.Len PySem.boot_len (Yp (Ye 1) Yu))) (Ye 2))))))) (Yk (Ydv 4 (Ybd (Yb (Yas Yag Ycj rfl bl.Tuple boot_tuple (Yp (Yd (Yz (Yfj rfl rfl bl.Sorted rfl bl.Set (Yd (Yz (Yf6 (Yd (Yz (Ybe Yat Yci rfl bl.List boot_list (Yp (Yd (Yj (Ye 5) (Yd Yi))) Yu)))) (Yd (Yz (Yd0 (Yb (Yg 6) Yl)))))))))) Yu)) (Yb (Yj (Ye 5) (Yd Yi)) Yl)))) (Yn (Yiw PassesOwn.never rfl (Yau (Yg 0)) (Yab 7 sc_law_following.nd) (Yn (Yal (Yd2 (Ydz (Yjy (Yd (Yj (Ye 5) (Yd Yi))) (Yd Yb3)) (Ydz (Yss hr.units (Yd (Yj (Ye 5) (Yd Yi))) (Yd (Yj (Ye 7) (Yd Yi)))) (Yc8 (Ysr (Yd (Yae Yaj Ych rfl bl.Len PySem.boot_len (Yp (Ye 4) Yu))) (Yd Yi)))))) (Yk (Yh5 8 sc_law_following.nd cs_law_following_0 rfl (Yau (Yj (Ye 7) (Yd Yi))) (fun _ _ _ _ _=>(Yab 0 cs_law_following_0.nd)) (fun _ _ _ _ _=>(Yen (Ymm hr.units (Ye 0) (Yd (Yj (Ye 1) (Yd Yi)))))) (fun _ _ _ _ _=>(Yg 0)) (Yar (i:=0) rfl)) (Yn (Ydv 4 (Ybd (Yb (Yas Yag Ycj rfl bl.Tuple boot_tuple (Yp (Yd (Yz (Yfj rfl rfl bl.Sorted rfl bl.Set (Yd (Yz (Yf6 (Ye 8) (Yd (Yz (Ybe Yat Yci rfl bl.List boot_list (Yp (Yd (Yj (Ye 5) (Yd Yi))) Yu)))))))))) Yu)) (Yb (Yj (Ye 7) (Yd Yi)) Yl)))))) Yaa))))))) Yaa) (Yn (Yt (Yas Yag Ycj rfl bl.Tuple boot_tuple (Yp (Ye 4) Yu))))))
abbrev Yig:Stmt:=top 79
theorem sc_law:FnScope ["script","book","hands","start","found","pick","more","again"] ["script"] (defScope Yig):=⟨rfl,rfl,rfl,by decide +kernel,rfl,by decide +kernel,by decide +kernel⟩
def Yn9:Ro→Option Out:=(sRet (andV (cC (Yh (getV 7) (Yh (getV 6) (Yh (getV 2) (Yh (getV 3) aNil)))) Ybp) (mB (b2 (b2 (getC 7) (kD (.int 0)) ixD) (b2 (getC 4) (kD (.int 0)) ixD) (eqM false)))))
def Yoa:Ro→Option Out:=(sSeq (sSet 7 (cC (Yh (getV 6) (Yh (lF (cF (Yh (getC 2) aNil) Yfe)) (Yh (getV 3) aNil))) Yay)) Yn9)
def Yob:Ro→Option Out:=(sSeq (sSet 6 (dTup (Yh (kD (.str "ifs")) (Yh (b2 (cC (Yh (b2 (getC 1) (kD (.int 1)) ixD) (Yh (getV 2) (Yh (getV 3) (Yh (getV 5) aNil)))) Ya2) (b2 (getC 1) (kD (.int 1)) ixD) Ypk) aNil)))) Yoa)
def Yoc:Ro→Option Out:=(sSeq (sSet 5 (cC (Yh (cC (Yh (getV 0) (Yh (kD (.int 3)) aNil)) Ya5) (Yh (kD (.int 2049848353892358983)) aNil)) Yaw)) Yob)
def Yod:Ro→Option Out:=(sSeq (sIf (notT (b1 (cC (Yh (getV 4) (Yh (getV 1) (Yh (getV 2) (Yh (getV 3) aNil)))) Ybp) truD)) (sRet (kD (.bl false))) sNil) Yoc)
def Yoe:Ro→Option Out:=(sSeq (sSet 4 (cC (Yh (getV 1) (Yh (getV 2) (Yh (getV 3) aNil))) Yay)) Yod)
def y19:Ro→Option Out:=(sSeq (sAsg (cC (Yh (kD (.str "ifs")) (Yh (getV 0) aNil)) Yc7) (Ysw 1 2 3)) Yoe)
def Yrs:List D→Option D:=runB 1 8 y19
theorem y5c(bl:Bl K w mg)(ubx:Okf P w K mg base 3 2 "_law_drawn" ["kind","script"] Yc7)(vi:Okf P w K mg base 5 3 "if_outcome" ["book","hands","start"] Yay)(xx:Okf P w K mg base 20 4 "_law_good" ["found","book","hands","start"] Ybp)(ud:Okf P w K mg base 1 2 "_law_cell" ["script","k"] Ya5)(uc:Okf P w K mg base 1 2 "_law_mixed" ["cell","by"] Yaw)(xy:Okf P w K mg base 1 4 "_law_following" ["rules","hands","start","pick"] Ya2){a:Addr}{fd:FuncData}(F:Fun K "law" "law" Yig a fd):FnOk P w K mg base CX0 21 a fd ["script"] (spOf K 1 Yrs):=by
 refine Ys (k:=20) F sc_law rfl rfl fun cdv A outer s H E hr=>?_
 exact(Yk (y14 (Yws 1 2 3 rfl sc_law.nd) (Ym ubx hr rfl (Yb Yw (Yb (Yg 0) Yl)) (Yc (Yc (fun _ _ h=>Yo h))))) (Yk (Yah 4 sc_law.nd (Ym vi hr rfl (Yb (Yg 1) (Yb (Yg 2) (Yb (Yg 3) Yl))) (Yc (Yc (Yc (fun _ _ h=>Yo h)))))) (Yk (Yal (Ycw (Ybt (Yd (Ym xx hr rfl (Yb (Yg 4) (Yb (Yg 1) (Yb (Yg 2) (Yb (Yg 3) Yl)))) (Yc (Yc (Yc (Yc (fun _ _ h=>Yo h))))))))) (Yn (Yt Yde)) Yaa) (Yk (Yah 5 sc_law.nd (Ym uc hr rfl (Yb (Ym ud hr rfl (Yb (Yg 0) (Yb Yi Yl)) (Yc (Yc (fun _ _ h=>Yo h)))) (Yb Yi Yl)) (Yc (Yc (fun _ _ h=>Yo h))))) (Yk (Yah 6 sc_law.nd (Ybd (Yb Yw (Yb (Ysv (Yd (Ym xy hr rfl (Yb (Yj (Ye 1) (Yd Yi)) (Yb (Yg 2) (Yb (Yg 3) (Yb (Yg 5) Yl)))) (Yc (Yc (Yc (Yc (fun _ _ h=>Yo h))))))) (Yd (Yj (Ye 1) (Yd Yi)))) Yl)))) (Yk (Yah 7 sc_law.nd (Ym vi hr rfl (Yb (Yg 6) (Yb (Yz (Ybe Yat Yci rfl bl.List boot_list (Yp (Ye 2) Yu))) (Yb (Yg 3) Yl))) (Yc (Yc (Yc (fun _ _ h=>Yo h)))))) (Yn (Yt (Yhg (Ym xx hr rfl (Yb (Yg 7) (Yb (Yg 6) (Yb (Yg 2) (Yb (Yg 3) Yl)))) (Yc (Yc (Yc (Yc (fun _ _ h=>Yo h)))))) (Yfg (Yem hr.units (Yd (Yj (Ye 7) (Yd Yi))) (Yd (Yj (Ye 4) (Yd Yi))))))))))))))
end
abbrev Yof:Nat:=21
theorem all_mk{l:W.OpenLaw}{w:World}{K:W.Frag}{h:Heap}{mg:Str→Option Value}{fa u0 xb xz vj u3 ucr ual x4 ur uam ut uan u4 um u5 xc u9 x5 ua5 uo xf vd uq uj uao u6 vk vm uu u7 xg vn udf x6 xh xi x8 xj vo x9 xk uv ucu:Addr}(X:K.In h)(G:h.Ns mainGlobals mg)(hfa:mg "law"=some (.ref fa))
 {ud7 udg:Option Addr} {ud8:Array (Option Value)} {ud9 udh udi udj ua6 udk:Value} {za ua7 uby uar zb udx ucv ubz xm ucw xn ucx zc vp zd ua8 zy ub0 udl vq ua9 zz v0 vf ucy ze uas uat xo zf uba uau ud2 ub1 ubb ubc ub2 ubd uav ub3 ube xp:FuncData}
 (z0:W.nsIn K mainGlobals "either_holds"=some (some (.ref u0))) (z1:Fun K "either_holds" "either_holds" Yck u0 za)
 (ub4:W.nsIn K mainGlobals "sum_holds"=some (some (.ref xb))) (ub5:Fun K "sum_holds" "sum_holds" Yeo xb ua7)
 (ucz:W.nsIn K mainGlobals "if_holds"=some (some (.ref xz))) (uc0:Fun K "if_holds" "if_holds" Yfl xz uby)
 (ubf:W.nsIn K mainGlobals "rule_holds"=some (some (.ref vj))) (ubg:Fun K "rule_holds" "rule_holds" Yfn vj uar)
 (z3:W.nsIn K mainGlobals "broken_rules"=some (some (.ref u3))) (z4:Fun K "broken_rules" "broken_rules" Ycl u3 zb)
 (ud3:W.nsIn K mainGlobals "holds"=some (some (.ref ucr))) (ud4:Fun K "holds" "holds" Ynp ucr udx)
 (udm:W.nsIn K mainGlobals "without"=some (some (.ref ual))) (udn:Fun K "without" "without" Ygo ual ucv)
 (uc1:W.nsIn K mainGlobals "is_place"=some (some (.ref x4))) (uc2:Fun K "is_place" "is_place" Yhj x4 ubz)
 (zg:W.nsIn K mainGlobals "body_is_known"=some (some (.ref ur))) (zh:Fun K "body_is_known" "body_is_known" Yca ur xm)
 (udo:W.nsIn K mainGlobals "is_step"=some (some (.ref uam))) (udp:Fun K "is_step" "is_step" Yiz uam ucw)
 (zi:W.nsIn K mainGlobals "is_derivation"=some (some (.ref ut))) (zj:Fun K "is_derivation" "is_derivation" Ydm ut xn)
 (udq:W.nsIn K mainGlobals "derived"=some (some (.ref uan))) (udr:Fun K "derived" "derived" Ygp uan ucx)
 (z5:W.nsIn K mainGlobals "step_to_more"=some (some (.ref u4))) (z7:Fun K "step_to_more" "step_to_more" Yd6 u4 zc)
 (v4:W.nsIn K mainGlobals "derived_in_full"=some (some (.ref um))) (v5:Fun K "derived_in_full" "derived_in_full" Ybu um vp)
 (z9:W.nsIn K mainGlobals "beacons_with"=some (some (.ref u5))) (uaa:Fun K "beacons_with" "beacons_with" Ycn u5 zd)
 (ub6:W.nsIn K mainGlobals "is_rising"=some (some (.ref xc))) (ub7:Fun K "is_rising" "is_rising" Ygb xc ua8)
 (uaw:W.nsIn K mainGlobals "are_some_of"=some (some (.ref u9))) (uax:Fun K "are_some_of" "are_some_of" Yc9 u9 zy)
 (uc3:W.nsIn K mainGlobals "ahead_of"=some (some (.ref x5))) (uc4:Fun K "ahead_of" "ahead_of" Yfp x5 ub0)
 (udy:W.nsIn K mainGlobals "is_row"=some (some (.ref ua5))) (udz:Fun K "is_row" "is_row" Yk2 ua5 udl)
 (v6:W.nsIn K mainGlobals "holds_where_lit"=some (some (.ref uo))) (v7:Fun K "holds_where_lit" "holds_where_lit" Ybv uo vq)
 (ub8:W.nsIn K mainGlobals "rows_good"=some (some (.ref xf))) (ub9:Fun K "rows_good" "rows_good" Ybx xf ua9)
 (uay:W.nsIn K mainGlobals "keeper_good"=some (some (.ref vd))) (uaz:Fun K "keeper_good" "keeper_good" Yda vd zz)
 (xq:W.nsIn K mainGlobals "places_to_none"=some (some (.ref uq))) (xt:Fun K "places_to_none" "places_to_none" Yc4 uq v0)
 (vt:W.nsIn K mainGlobals "places_to_beacon"=some (some (.ref uj))) (vv:Fun K "places_to_beacon" "places_to_beacon" Ybl uj vf)
 (uds:W.nsIn K mainGlobals "some_of"=some (some (.ref uao))) (udt:Fun K "some_of" "some_of" Ygq uao ucy)
 (uab:W.nsIn K mainGlobals "facts_beside"=some (some (.ref u6))) (uac:Fun K "facts_beside" "facts_beside" Yd9 u6 ze)
 (ubh:W.nsIn K mainGlobals "if_outcome"=some (some (.ref vk))) (ubi:Fun K "if_outcome" "if_outcome" Yfs vk uas)
 (ubj:W.nsIn K mainGlobals "first_ones"=some (some (.ref vm))) (ubk:Fun K "first_ones" "first_ones" Ycq vm uat)
 (zk:W.nsIn K mainGlobals "is_first_part"=some (some (.ref uu))) (zl:Fun K "is_first_part" "is_first_part" Ydo uu xo)
 (uad:W.nsIn K mainGlobals "is_last_part"=some (some (.ref u7))) (uae:Fun K "is_last_part" "is_last_part" Yee u7 zf)
 (uca:W.nsIn K mainGlobals "lone_good"=some (some (.ref xg))) (ucb:Fun K "lone_good" "lone_good" Ygf xg uba)
 (ubl:W.nsIn K mainGlobals "storm_good"=some (some (.ref vn))) (ubm:Fun K "storm_good" "storm_good" Yds vn uau)
 (uea:W.nsIn K mainGlobals "good"=some (some (.ref udf))) (ueb:Fun K "good" "good" Yrm udf ud2)
 (uc5:W.nsIn K mainGlobals "_law_cell"=some (some (.ref x6))) (uc6:Fun K "_law_cell" "_law_cell" Yhq x6 ub1)
 (ucc:W.nsIn K mainGlobals "_law_mixed"=some (some (.ref xh))) (ucd:Fun K "_law_mixed" "_law_mixed" Ygg xh ubb)
 (uce:W.nsIn K mainGlobals "_law_hands"=some (some (.ref xi))) (ucf:Fun K "_law_hands" "_law_hands" Yeq xi ubc)
 (uc7:W.nsIn K mainGlobals "_law_rule"=some (some (.ref x8))) (uc8:Fun K "_law_rule" "_law_rule" Yft x8 ub2)
 (ucg:W.nsIn K mainGlobals "_law_plain"=some (some (.ref xj))) (uch:Fun K "_law_plain" "_law_plain" Ydk xj ubd)
 (ubn:W.nsIn K mainGlobals "_law_truths"=some (some (.ref vo))) (ubo:Fun K "_law_truths" "_law_truths" Ybm vo uav)
 (uc9:W.nsIn K mainGlobals "_law_good"=some (some (.ref x9))) (uda:Fun K "_law_good" "_law_good" Yhr x9 ub3)
 (uci:W.nsIn K mainGlobals "_law_drawn"=some (some (.ref xk))) (ucj:Fun K "_law_drawn" "_law_drawn" Ydl xk ube)
 (zm:W.nsIn K mainGlobals "_law_following"=some (some (.ref uv))) (zn:Fun K "_law_following" "_law_following" Ycb uv xp)
 (ued:W.nsIn K mainGlobals "law"=some (some (.ref ucu))) (uee:K.lookup ucu=some ⟨ud9,ud7,.func (W.fnOf "law" "law" (defArgs Yig) (defBody Yig) (defScope Yig) .none udh udi udj udg ua6 udk),ud8⟩) (uef:W.codeIn K ua6 "law"=true) (ueg:W.keepIn K (.ref ucu)=true)
 (z_len:W.nsIn K mainGlobals "len"=some none)
 (z_range:W.nsIn K mainGlobals "range"=some none)
 (z_list:W.nsIn K mainGlobals "list"=some none)
 (z_tuple:W.nsIn K mainGlobals "tuple"=some none)
 (z_int:W.nsIn K mainGlobals "int"=some none)
 (z_bool:W.nsIn K mainGlobals "bool"=some none)
 (z_str:W.nsIn K mainGlobals "str"=some none)
 (z_sorted:W.nsIn K mainGlobals "sorted"=some none)
 (z_any:W.nsIn K mainGlobals "any"=some none)
 (z_all:W.nsIn K mainGlobals "all"=some none)
 (z_isinstance:W.nsIn K mainGlobals "isinstance"=some none)
 (z_enumerate:W.nsIn K mainGlobals "enumerate"=some none)
 (z_set:W.nsIn K mainGlobals "set"=some none)
 (z_min:W.nsIn K mainGlobals "min"=some none)
 (z_dict:W.nsIn K mainGlobals "dict"=some none)
 : ∃fd:FuncData,(∀(s:Shared) (v:Value),BindsTo s fd ⟨[v],[]⟩ [("script",v)])∧∀base:Heap,K.In base→base.Ns mainGlobals mg→FnOk l.prog w K mg base CX0 Yof fa fd ["script"] (spOf K 1 Yrs):=by
 have e:=hfa.symm.trans (W.mg_of X G ued)
 cases e
 have bl:Bl K w mg:=⟨W.mg_none_of X G z_len,W.mg_none_of X G z_range,W.mg_none_of X G z_list,W.mg_none_of X G z_tuple,W.mg_none_of X G z_int,W.mg_none_of X G z_bool,W.mg_none_of X G z_str,W.mg_none_of X G z_sorted,W.mg_none_of X G z_any,W.mg_none_of X G z_all,W.mg_none_of X G z_isinstance,W.mg_none_of X G z_enumerate,W.mg_none_of X G z_set,W.mg_none_of X G z_min,W.mg_none_of X G z_dict⟩
 have ueh:=fun_mk (st:=Yig) uee uef ueg
 refine⟨W.fnOf "law" "law" (defArgs Yig) (defBody Yig) (defScope Yig) .none udh udi udj udg ua6 udk,fun s v=>.of_eq rfl,fun base _ _=>?_⟩
 have uaf:=Yks (P:=l.prog) (w:=w) (base:=base) bl  z1 (W.mg_of X G z0)
 have uck:=Ypn (P:=l.prog) (w:=w) (base:=base) bl  ub5 (W.mg_of X G ub4)
 have udb:=Yrf (P:=l.prog) (w:=w) (base:=base) bl  uc0 (W.mg_of X G ucz)
 have ubp:=Yno (P:=l.prog) (w:=w) (base:=base) bl uaf uck udb ubg (W.mg_of X G ubf)
 have uag:=Ykv (P:=l.prog) (w:=w) (base:=base) bl ubp z4 (W.mg_of X G z3)
 have ud5:=Yyv (P:=l.prog) (w:=w) (base:=base) bl uag ud4 (W.mg_of X G ud3)
 have vw:=Yt2 (P:=l.prog) (w:=w) (base:=base) bl  udn (W.mg_of X G udm)
 have zo:=Yrh (P:=l.prog) (w:=w) (base:=base) bl  uc2 (W.mg_of X G uc1)
 have uf:=Yjj (P:=l.prog) (w:=w) (base:=base) bl  zh (W.mg_of X G zg)
 have uap:=Yt3 (P:=l.prog) (w:=w) (base:=base) bl zo uf udp (W.mg_of X G udo)
 have uw:=Yjk (P:=l.prog) (w:=w) (base:=base) bl uap zj (W.mg_of X G zi)
 have udu:=Yt4 (P:=l.prog) (w:=w) (base:=base) bl  udr (W.mg_of X G udq)
 have uah:=Yky (P:=l.prog) (w:=w) (base:=base) bl uap z7 (W.mg_of X G z5)
 have v8:=Yib (P:=l.prog) (w:=w) (base:=base) bl uah v5 (W.mg_of X G v4)
 have ug:=Yk0 (P:=l.prog) (w:=w) (base:=base) bl  uaa (W.mg_of X G z9)
 have ucl:=Ypq (P:=l.prog) (w:=w) (base:=base) bl  ub7 (W.mg_of X G ub6)
 have ve:=Ylu (P:=l.prog) (w:=w) (base:=base) bl ucl uax (W.mg_of X G uaw)
 have zp:=Yrl (P:=l.prog) (w:=w) (base:=base) bl  uc4 (W.mg_of X G uc3)
 have ud0:=Yww (P:=l.prog) (w:=w) (base:=base) bl ve zp udz (W.mg_of X G udy)
 have v9:=Yie (P:=l.prog) (w:=w) (base:=base) bl ud5 v7 (W.mg_of X G v6)
 have ucm:=Ypr (P:=l.prog) (w:=w) (base:=base) bl ve ud0 vw v9 ub9 (W.mg_of X G ub8)
 have ua0:=Ylv (P:=l.prog) (w:=w) (base:=base) bl ug ucm uaz (W.mg_of X G uay)
 have xu:=Yi2 (P:=l.prog) (w:=w) (base:=base) bl uf xt (W.mg_of X G xq)
 have vy:=Yho (P:=l.prog) (w:=w) (base:=base) bl  vv (W.mg_of X G vt)
 have udv:=Yt6 (P:=l.prog) (w:=w) (base:=base) bl  udt (W.mg_of X G uds)
 have uai:=Yk5 (P:=l.prog) (w:=w) (base:=base) bl vw zp uac (W.mg_of X G uab)
 have ubq:=Ynu (P:=l.prog) (w:=w) (base:=base) bl ug v8 xu udv uai vy ubi (W.mg_of X G ubh)
 have ubr:=Ynv (P:=l.prog) (w:=w) (base:=base) bl  ubk (W.mg_of X G ubj)
 have zq:=Yjm (P:=l.prog) (w:=w) (base:=base) bl uw zl (W.mg_of X G zk)
 have uaj:=Yk6 (P:=l.prog) (w:=w) (base:=base) bl zo uw udu uf uae (W.mg_of X G uad)
 have ucn:=Ypt (P:=l.prog) (w:=w) (base:=base) bl zq vw ubr uaj ucb (W.mg_of X G uca)
 have ubs:=Ynz (P:=l.prog) (w:=w) (base:=base) bl ug ucn ubm (W.mg_of X G ubl)
 have uec:=y18 (P:=l.prog) (w:=w) (base:=base) bl ua0 ubs ueb (W.mg_of X G uea)
 have zr:=Yro (P:=l.prog) (w:=w) (base:=base) bl  uc6 (W.mg_of X G uc5)
 have uh:=Ypv (P:=l.prog) (w:=w) (base:=base) bl  ucd (W.mg_of X G ucc)
 have uco:=Ypw (P:=l.prog) (w:=w) (base:=base) bl uh ucf (W.mg_of X G uce)
 have udc:=Yrp (P:=l.prog) (w:=w) (base:=base) bl uh uc8 (W.mg_of X G uc7)
 have ucp:=Yp7 (P:=l.prog) (w:=w) (base:=base) bl  uch (W.mg_of X G ucg)
 have ubt:=Yn3 (P:=l.prog) (w:=w) (base:=base) bl  ubo (W.mg_of X G ubn)
 have udd:=Yrr (P:=l.prog) (w:=w) (base:=base) bl ucp ubt uec uda (W.mg_of X G uc9)
 have ucq:=Yqa (P:=l.prog) (w:=w) (base:=base) bl zr uco uh udc ucj (W.mg_of X G uci)
 have zt:=Yjq (P:=l.prog) (w:=w) (base:=base) bl  zn (W.mg_of X G zm)
 exact y5c bl ucq ubq udd zr uh zt ueh
theorem walk(hlaw:∀ns:List Int,ns.length≤63→Yrs [.scr ns]=some (.bl true)){l:W.OpenLaw}{q:Program}{loose:List Str}{XP:(Str→Option Value)→Heap→Prop}{YP:World→Heap→Prop}{d:DefRec}{K:Params→W.Frag}(hn:l.most=some 63)(hdf:d.params.defaults=[])
 (hY:∀(w:World) (h:Heap),YP w h→(K w.params).In h)
 (F:∀(w:World) (mg:Str→Option Value) (fa:Addr) (h:Heap),(K w.params).In h→h.Ns mainGlobals mg→mg d.name=some (.ref fa)→
  ∃fd:FuncData,(∀(s:Shared) (u:Value),BindsTo s fd ⟨[u],[]⟩ [("script",u)])∧∀base:Heap,(K w.params).In base→base.Ns mainGlobals mg→FnOk l.prog w (K w.params) mg base CX0 Yof fa fd ["script"] (spOf (K w.params) 1 Yrs)) :
 W.WalkO q loose XP YP l.row.toRowW d [] (fun f vs=>PySem.call f vs):=
 L2.walk_of (n:=63) (k:=Yof) (x:="script") (CX:=fun _=>CX0) (sp:=fun w=>spOf (K w.params) 1 Yrs) hn (by decide) hdf ⟨rfl,by decide,by decide⟩ hY F
  (fun w H a ns hl _ hS=>⟨rfl,[.scr ns],.bl true,H,Same.refl H,.one (by rw[Rp];exact⟨a,rfl,hS⟩),hlaw ns hl,fun v H' G' g r=>by rw[Rp]at r;exact r⟩) fun _ _ _ _ _ z=>z
end Lw
end
namespace Lw
open PySem L2 M Bk
theorem Ysx:∀(l acc:List Int) (x:Int),x∈ddup acc l↔x∈acc∨x∈l
 | [],acc,x=>by simp[ddup]
 | k::l,acc,x=>by
   rw[ddup,Ysx]
   by_cases h:k∈acc
   ·rw[if_pos h]
    simp
    constructor
    ·rintro(h1 | h1)
     ·exact .inl h1
     ·exact .inr (.inr h1)
    ·rintro(h1 | h1 | h1)
     ·exact .inl h1
     ·subst h1;exact .inl h
     ·exact .inr h1
   ·rw[if_neg h]
    simp[or_assoc]
theorem Ymq:∀(l acc:List Int),acc.Nodup→(ddup acc l).Nodup
 | [],_,h=>h
 | k::l,acc,h=>by
   rw[ddup]
   refine Ymq l _ ?_
   by_cases hk:k∈acc
   ·rw[if_pos hk];exact h
   ·rw[if_neg hk,List.nodup_append]
    refine⟨h,by simp,fun x hx y hy z=>?_⟩
    simp at hy
    subst hy
    exact hk (z ▸ hx)
theorem Yjz{n:Nat}(hn:n < 64)(l:List Nat)(h:∀x∈l,x < n)(hl:l.length < 4000):∃l':List Nat,l'.Pairwise (· < ·)∧(∀x,x∈l'↔x∈l)∧Ytx (l.map nD)=some (l'.map nD):=by
 have e1:l.map nD=(l.map Int.ofNat).map D.int:=by simp[nD,Function.comp_def]
 generalize hd:ddup [] (l.map Int.ofNat)=d
 have hnd:d.Nodup:=by rw[←hd];exact Ymq _ _ .nil
 have hmem:∀x,x∈d↔∃y∈l,(y:Int)=x:=fun x=>by rw[←hd,Ysx];simp
 have hp:=Ybb d
 have hs:=Ybg d
 obtain⟨l',e2⟩:∃l':List Nat,Ydc d=l'.map Int.ofNat:=by
  refine⟨(Ydc d).map Int.toNat,?_⟩
  rw[Qj]
  refine(List.map_id _).symm.trans (List.map_congr_left fun x hx=>?_)
  obtain⟨y,_,rfl⟩:=(hmem x).mp (hp.mem_iff.mp hx)
  simp[Function.comp_def]
 have hm2:∀x,x∈l'↔x∈l:=fun x=>by
  have h1:x∈l'↔(x:Int)∈Ydc d:=by
   rw[e2]
   constructor
   ·exact fun h=>List.mem_map_of_mem (f:=Int.ofNat) h
   ·intro h
    obtain⟨y,hy,hyx⟩:=qw h
    have:y=x:=by simpa using hyx
    exact this ▸ hy
  rw[h1,hp.mem_iff,hmem]
  constructor
  ·rintro⟨y,hy,hyx⟩
   have:y=x:=by omega
   exact this ▸ hy
  ·exact fun h=>⟨x,h,rfl⟩
 have hpw:l'.Pairwise (· < ·):=by
  rw[e2]at hp hs
  have hn':l'.Nodup:=by
   have:=hp.nodup_iff.mpr hnd
   rw[List.nodup_iff_pairwise_ne,List.pairwise_map]at this
   exact this.imp fun h z=>h (by rw[z])
  have hs':l'.Pairwise (·≤·):=(List.pairwise_map.mp hs).imp fun h=>by simpa using h
  exact(hs'.and hn').imp fun h=>Nat.lt_of_le_of_ne h.1 h.2
 have hlen:d.length≤n:=by
  rw[←hp.length_eq,e2,qe]
  exact y49 hpw fun x hx=>h x ((hm2 x).mp hx)
 refine⟨l',hpw,hm2,?_⟩
 unfold Ytx
 rw[e1,Ykq]
 dsimp only
 rw[if_pos ⟨by rw[qe];exact hl,by rw[hd];omega⟩,hd,e2]
 simp[nD,Function.comp_def]
end Lw
namespace Lw
open PySem L2 M Bk
theorem Yqb(ns:List Int)(k:Nat):Ya5 [.scr ns,.int k]=some (.int (ns.getD k 0)):=by
 rw[Ya5,Yac (by rfl)]
 by_cases h:k < ns.length
 ·have e:atI (ns.map D.int) (k:Int)=some (.int ns[k]):=by
   rw[Yfk,Yh8 h]
   rfl
  simp[Yi3,Yv,h,e]
 ·simp[Yi3,Yv,h]
end Lw
namespace Lw
open PySem L2 M Bk
theorem y2a(ns:List Int)(a b:Nat):cutD (ns.map D.int) (some (a:Int)) (some (b:Int))=((ns.drop (min a ns.length)).take (min b ns.length - min a ns.length)).map D.int:=by
 unfold cutD
 rw[HT.sIx_nat,HT.sIx_nat]
 simp
theorem drawn{fe:Ro→Option D}{r:Ro}{P:Rl→Prop}(h:∀c:Int,∃x:Rl,P x∧fe (some (.sh (.int c))::r)=some (rlD x)):∀cells:List Int,∃R:List Rl,R.length=cells.length∧(∀x∈R,P x)∧Ygu (gSet 0) tY fe (none::r) (cells.map D.int)=some (R.map rlD)
 | []=>⟨[],rfl,fun _ h=>(nomatch h),rfl⟩
 | c::cells=>by
   obtain⟨R,h1,h2,h3⟩:=drawn h cells
   obtain⟨x,hx,hr⟩:=h c
   refine⟨x::R,by simp[h1],fun y hy=>?_,?_⟩
   ·rcases qr hy with rfl | hy
    ·exact hx
    ·exact h2 y hy
   ·rw[Qc,Ygu,h3]
    simp[hr]
end Lw
namespace Lw
open PySem L2 M Bk
theorem Yog(c m:Int):∃v:Int,0≤v∧Yaw [.int c,.int m]=some (.int v):=by
 refine⟨c % 2305843009213693951 * m % 2305843009213693951,Int.emod_nonneg _ (by decide),?_⟩
 rw[Yaw,Yac (by rfl)]
 have h1:0≤c % 2305843009213693951:=Int.emod_nonneg _ (by decide)
 have h2:c % 2305843009213693951 < 2305843009213693951:=Int.emod_lt_of_pos _ (by decide)
 have h3:mulI (.int (c % 2305843009213693951)) (.int m)=some (.int (c % 2305843009213693951 * m)):=Yym ⟨by omega,by omega⟩
 simp[Yk8,Yv,h3]
end Lw
namespace Lw
open PySem L2 M Bk
section
variable {c:D} {ev:List Bool} (hc:Yr c=some (ev.map D.bl))
include hc
theorem Yl8{l:List Say}(hl:∀s∈l,s.1 < ev.length):Yb5 [rlD (.ei l),c]=some (.bl (l.any fun s=>at' ev s.1==s.2)):=by
 have h:=Yf8 (fe:=Ycx) (r:=[some (.sh c)]) (enc:=sayD) (fun s=>.bl (at' ev s.1==s.2)) (l:=l) (fun s hs=>by
  simp[Ycx,hc,Yyp (hl s hs)])
 rw[Yb5,Yac (by rfl)]
 simp[Yg1,Yv,capR,h,Function.comp_def]
theorem Yrt{b:List Nat}{o:Bool}(hl:∀x∈b,x < ev.length):Yd3 [rlD (.su b o),c]=some (.bl (decide ((b.filter (at' ev)).length % 2=1)==o)):=by
 have h:=Yjc (fc:=Yet) (fe:=Yeu) (r:=[some (.sh c)]) (enc:=nD) (at' ev) nD (l:=b) (fun s hs=>by
  simp[Yet,hc,nD,Yyp (hl s hs)]) (fun s _ _=>by simp[Yeu])
 have e:∀n:Nat,decide (((n:Nat):Int) % 2=1)=decide (n % 2=1):=fun n=>by
  by_cases z:n % 2=1
  ·have:((n:Nat):Int) % 2=1:=by omega
   simp[z,this]
  ·have:¬((n:Nat):Int) % 2=1:=by omega
   simp[z,this]
 rw[Yd3,Yac (by rfl)]
 simp[Ykt,Yv,capR,h,e]
theorem Ymr{b:List Nat}{h:Option Nat}{w:Bool}(hl:∀x∈b,x < ev.length)(hh:∀x,h=some x→x < ev.length):Ye6 [rlD (.im b h),c,.bl w]=some (.bl ((b.any fun x=>at' ev x != w)||hd ev w h)):=by
 have h1:=Yf8 (fe:=Yfm) (r:=[some (.sh c),some (.sh (.bl w))]) (enc:=nD) (fun x=>.bl (at' ev x != w)) (l:=b) (fun s hs=>by
  simp[Yfm,hc,nD,Yyp (hl s hs),bne])
 rw[Ye6,Yac (by rfl)]
 cases hb:(b.any fun x=>at' ev x != w)with
 | true=>simp[Ygn,Yv,capR,h1,Function.comp_def,hb]
 | false=>
   cases h with
   | none=>simp[Ygn,Yv,capR,h1,Function.comp_def,hb,optD,hd]
   | some x=>simp[Ygn,Yv,capR,h1,Function.comp_def,hb,optD,hd,hc,Yyp (hh x rfl)]
theorem Yqc{k:Kd}{r:Rl}(hr:In k ev.length r):Ydg [kdD k,rlD r,c]=some (.bl (so k ev r)):=by
 rw[Ydg,Yac (by rfl)]
 cases r with
 | ei l=>
   obtain⟨rfl,hl⟩:=hr
   simp[Ydf,Yv,Yl8 hc hl,so]
 | su b o=>
   obtain⟨rfl,hl⟩:=hr
   simp[Ydf,Yv,Yrt hc hl,so]
 | im b h=>
   obtain⟨hk,hl,hh⟩:=hr
   rcases hk with rfl | rfl
   ·simp[Ydf,Yv,Ymr hc hl hh,so]
   ·simp[Ydf,Yv,Ymr hc hl hh,so]
end
end Lw
namespace Lw
open PySem L2 M Bk
section
variable {c:D} {ev:List Bool} (hc:Yr c=some (ev.map D.bl))
include hc
theorem Yl9{k:Kd}{R:List Rl}(hR:∀r∈R,In k ev.length r):Yb6 [Yjh k R,c]=some (.lst ((brk k ev R).map nD)):=by
 have h:=y45 (fc:=Ycy) (fe:=Ycz) (r:=[some (.sh (Yjh k R)),some (.sh c)]) (e1:=fun i:Nat=>.int i) (e2:=fun i=>rlD (nth R i)) (fun i=>!so k ev (nth R i)) nD (l:=List.range R.length) (fun i hi=>by
  have hi':=Qa hi
  have hr:=Yqc hc (hR (nth R i) (Ywq hi'))
  simp[Ycy,hr]) (fun i _ _=>by simp[Ycz,nD])
 rw[Yb6,Yac (by rfl)]
 simp[Yg2,Yv,capR,y13,h,brk]
end
end Lw
namespace Lw
open PySem L2 M Bk
section
variable {c:D} {ev:List Bool} (hc:Yr c=some (ev.map D.bl))
include hc
theorem y2b{k:Kd}{R:List Rl}(hR:∀r∈R,In k ev.length r):Ykw [Yjh k R,c]=some (.bl (decide (brk k ev R=[]))):=by
 rw[Ykw,Yac (by rfl)]
 have e:decide (((brk k ev R).length:Int)=0)=decide (brk k ev R=[]):=by
  cases brk k ev R with
  | nil=>rfl
  | cons a l=>simp;omega
 simp[Ywu,Yv,Yl9 hc hR,e]
end
end Lw
namespace Lw
open PySem L2 M Bk
noncomputable def kn(b fs:List Nat):Bool:=b.all fun x=>decide (x∈fs)
noncomputable abbrev IfR:=List Nat × Option Nat
noncomputable def ifD(r:IfR):D:=.tup [.tup (r.1.map nD),optD r.2]
structure IfOk(r:IfR):Prop where
 b:∀x∈r.1,x < 60
 h:∀x,r.2=some x→x < 60
 p:r.1.Pairwise (· < ·)
 l:r.1.length≤3
@[simp] theorem items_if(r:IfR):Yr (ifD r)=some [.tup (r.1.map nD),optD r.2]:=nr rfl
end Lw
namespace Lw
open PySem L2 M Bk
noncomputable def Yx(R:List IfR):D:=.tup [.str "ifs",.tup (R.map ifD)]
@[simp] theorem Yfu(R:List IfR):Yr (Yx R)=some [.str "ifs",.tup (R.map ifD)]:=nr rfl
theorem Yeh{d:D}(r:IfR)(fs:List Nat)(hd:Yr d=some (fs.map nD)):Yai [ifD r,d]=some (.bl (kn r.1 fs)):=by
 rw[Yai,Yac (by rfl)]
 have h:=Yf8 (fe:=Ya6) (r:=[some (.sh d)]) (enc:=nD) (fun x=>D.bl (decide (x∈fs))) (l:=r.1) (fun x _=>by simp[Ya6,in_n x fs false hd])
 simp[Yd4,Yv,capR,h,kn,List.all_map,Function.comp_def]
theorem Ygr(R:List IfR)(i:Int):Yc0 [Yx R,.int i]=some (.bl (decide (0≤i∧i < R.length))):=by
 rw[Yc0,Yac (by rfl)]
 by_cases h:0≤i<;>simp[Ymo,Yv,h]
noncomputable def rAt(R:List IfR)(i:Int):IfR:=R.getD i.toNat ([],none)
theorem Yqd{R:List IfR}{i:Int}(h:0≤i∧i < R.length):atI (R.map ifD) i=some (ifD (rAt R i)):=by
 rw[Yfk,Yzq (j:=i.toNat) (v:=rAt R i) (by omega) (by rw[rAt,Qn,qp (by omega)];simp)]
 rfl
noncomputable def stp(R:List IfR)(fs:List Nat)(i:Int):Bool:=decide (0≤i∧i < R.length)&&((rAt R i).2.isSome&&kn (rAt R i).1 fs)
theorem Ywy(R:List IfR){d:D}(fs:List Nat)(i:Int)(hd:Yr d=some (fs.map nD)):Ycm [Yx R,d,.int i]=some (.bl (stp R fs i)):=by
 rw[Ycm,Yac (by rfl)]
 by_cases h:0≤i∧i < R.length
 ·have h1:=Yqd h
  have h2:=Yeh (rAt R i) fs hd
  have h3:=Ygr R i
  rw[decide_eq_true h]at h3
  unfold stp
  rw[decide_eq_true h]
  cases hh:(rAt R i).2 with
  | none=>simp[Ye7,Yv,h3,h1,hh,optD]
  | some x=>simp[Ye7,Yv,h3,h1,h2,hh,optD]
 ·have h3:=Ygr R i
  rw[decide_eq_false h]at h3
  unfold stp
  rw[decide_eq_false h]
  simp[Ye7,Yv,h3]
noncomputable def hdN(r:IfR):Nat:=r.2.getD 0
noncomputable def derB(R:List IfR):List Nat→List Int→Bool
 | _,[]=>true
 | fs,i::is=>stp R fs i&&derB R (fs++[hdN (rAt R i)]) is
end Lw
namespace Lw
open PySem L2 M Bk
theorem Ysy{R:List IfR}{fs:List Nat}{i:Int}(h:stp R fs i=true):(0≤i∧i < R.length)∧optD (rAt R i).2=nD (hdN (rAt R i)):=by
 unfold stp at h
 simp only[Qd,decide_eq_true_eq]at h
 refine⟨h.1,?_⟩
 obtain⟨x,hx⟩:=Option.isSome_iff_exists.mp h.2.1
 rw[hdN,hx]
 rfl
theorem Yms(R:List IfR)(c d:D):∀(is:List Int) (fs:List Nat) (y:Option B),fs.length+is.length≤1000→
 (derB R fs is=true∧∃ρ',M.forM (gSet 4) Yav (is.map D.int) [some (.sh (Yx R)),some (.sh c),some (.sh d),some (.ow (fs.map nD)),y]=some (.nx ρ'))∨
 (derB R fs is=false∧M.forM (gSet 4) Yav (is.map D.int) [some (.sh (Yx R)),some (.sh c),some (.sh d),some (.ow (fs.map nD)),y]=some (.rt (.bl false)))
 | [],fs,y,_=>.inl ⟨rfl,_,rfl⟩
 | i::is,fs,y,hl=>by
   have hs:=Ywy R (d:=.lst (fs.map nD)) fs i rfl
   rw[derB,Qc,M.forM]
   cases h:stp R fs i with
   | false=>
     rw[h]at hs
     right
     refine⟨rfl,?_⟩
     simp[Yav,hs]
   | true=>
     rw[h]at hs
     obtain⟨h1,h2⟩:=Ysy h
     have ih:=Yms R c d is (fs++[hdN (rAt R i)]) (some (.sh (.int i))) (by simp at hl ⊢;omega)
     have hb:Yav [some (.sh (Yx R)),some (.sh c),some (.sh d),some (.ow (fs.map nD)),some (.sh (.int i))]=some (.nx [some (.sh (Yx R)),some (.sh c),some (.sh d),some (.ow ((fs++[hdN (rAt R i)]).map nD)),some (.sh (.int i))]):=by
      have hcap:fs.length < 1000000:=by simp at hl;omega
      simp[Yav,hs,Yqd h1,h2,appD,hcap]
     simp only[y1x,List.set,qc,hb,Bool.true_and]
     exact ih
theorem Ygi(R:List IfR){c d:D}(fs:List Nat)(is:List Int)(hc:Yr c=some (fs.map nD))(hd:Yr d=some (is.map D.int))(hl:fs.length+is.length≤1000):Ya0 [Yx R,c,d]=some (.bl (derB R fs is)):=by
 rw[Ya0,Yac (by rfl)]
 rcases Yms R c d is fs none hl with⟨h1,ρ',h2⟩ | ⟨h1,h2⟩
 ·simp[Yd5,Yv,hc,hd,h2,h1]
 ·simp[Yd5,Yv,hc,hd,h2,h1]
end Lw
namespace Lw
open PySem L2 M Bk
noncomputable def hdD(b:Bool):D:=.str (if b=true then Str.ofString "keeper" else Str.ofString "storm")
theorem Ylg(c:Int)(n:Nat)(hn:n≤1000):∃hs:List Bool,hs.length=n∧Yc5 [.int c,.int n]=some (.tup (hs.map hdD)):=by
 obtain⟨v,hv0,hv⟩:=Yog c 1442695040888963407
 rw[Yc5,Yac (by rfl)]
 have hr:=Yix (n:=(n:Int)) (by omega) (by omega)
 rw[Yhi]at hr
 have hc:=Yf8 (fe:=Ydb) (r:=[some (.sh (.int v))]) (enc:=fun i:Nat=>D.int (0+(i:Nat))) (fun i:Nat=>hdD (decide (v / 2 ^ i % 2=0))) (l:=List.range ((n:Int) - 0).toNat) (fun i _=>by
  have h1:=Yv7 v i
  have h2:v / 2 ^ i % 2=0∨v / 2 ^ i % 2=1:=by omega
  have e0:(0:Int)+(i:Int)=(i:Int):=by omega
  rw[e0]
  rcases h2 with h2 | h2
  ·simp[Ydb,h1,h2,hdD]
  ·simp[Ydb,h1,h2,hdD])
 refine⟨(List.range n).map fun i:Nat=>decide (v / 2 ^ i % 2=0),by simp,?_⟩
 simp[Yk9,Yv,hv,hr,capR]at hc ⊢
 rw[hc]
 simp[Function.comp_def]
end Lw
namespace Lw
open PySem L2 M Bk
theorem Ylh(l:List Nat)(hn:l.Nodup)(hl:l.length < 64):∃l':List Nat,l'.Perm l∧l'.Pairwise (· < ·)∧Ynd [.lst (l.map nD)]=some (l'.map nD):=by
 have e1:l.map nD=(l.map Int.ofNat).map D.int:=by simp[nD,Function.comp_def]
 have hp:=Ybb (l.map Int.ofNat)
 have hs:=Ybg (l.map Int.ofNat)
 have e2:∃l':List Nat,Ydc (l.map Int.ofNat)=l'.map Int.ofNat:=by
  have hm:∀x∈Ydc (l.map Int.ofNat),0≤x:=fun x hx=>by
   obtain⟨y,_,rfl⟩:=qw (hp.mem_iff.mp hx)
   exact Int.natCast_nonneg y
  refine⟨(Ydc (l.map Int.ofNat)).map Int.toNat,?_⟩
  rw[Qj]
  refine(List.map_id _).symm.trans (List.map_congr_left fun x hx=>?_)
  have:=hm x hx
  simp[Function.comp_def]
  omega
 obtain⟨l',e2⟩:=e2
 rw[e2]at hp hs
 have hp':l'.Perm l:=by
  have:=hp.map Int.toNat
  simpa [Function.comp_def]using this
 refine⟨l',hp',?_,?_⟩
 ·have hn':l'.Nodup:=hp'.nodup_iff.mpr hn
  have hs':l'.Pairwise (·≤·):=by
   have:=List.pairwise_map.mp hs
   exact this.imp fun h=>by simpa using h
  exact(hs'.and hn').imp fun h=>Nat.lt_of_le_of_ne h.1 h.2
 ·show Ytk (l.map nD)=_
  rw[e1]
  unfold Ytk
  rw[Ykq]
  simp[hl,e2,nD,Function.comp_def]
theorem Ywz(l:List Say)(h:l.length≤2)(hn:(l.map (·.1)).Nodup):∃l':List Say,l'.Perm l∧l'.Pairwise slt∧Ynd [.lst (l.map sayD)]=some (l'.map sayD):=by
 match l,h,hn with
 | [],_,_=>exact⟨[],.refl _,.nil,rfl⟩
 | [a],_,_=>exact⟨[a],.refl _,by simp,rfl⟩
 | [a,b],_,hn=>
   have hab:a.1≠b.1:=by simpa using hn
   have e:Ynd [.lst ([a,b].map sayD)]=some (if plt b.1 b.2 a.1 a.2=true then [sayD b,sayD a]else [sayD a,sayD b]):=rfl
   obtain⟨x,p⟩:=a
   obtain⟨y,q⟩:=b
   have hxy:¬(y:Int)=(x:Int):=fun z=>hab (by simp;omega)
   cases hp:plt (y:Int) q (x:Int) p with
   | true=>
     refine⟨[(y,q),(x,p)],.swap _ _ [],?_,by rw[e];simp[hp]⟩
     unfold plt at hp
     rw[if_neg hxy]at hp
     simp at hp
     simp[slt,hp]
   | false=>
     refine⟨[(x,p),(y,q)],.refl _,?_,by rw[e];simp[hp]⟩
     unfold plt at hp
     rw[if_neg hxy]at hp
     simp at hp
     have:x < y:=by omega
     simp[slt,this]
theorem y2c(k:Kd)(c:Int)(st n:Nat)(h0:st < n)(hn:n≤1000):∃r:Rl,In k n r∧Srt r∧(∀x∈bcs r,st≤x)∧Yfb [kdD k,.int c,.int st,.int n]=some (rlD r):=by
 obtain⟨v,hv0,hv⟩:=Yog c 1181783497276652981
 have hd0:(0:Int) < (n:Int) - st:=by omega
 have hd1:(n:Int) - st < 1073741824:=by omega
 have hmod:∀x:Int,modI (.int x) (.int ((n:Int) - st))=some (.int (x % ((n:Int) - st))):=fun x=>Yh6 hd0
 have hdiv:∀x:Int,divI (.int x) (.int ((n:Int) - st))=some (.int (x / ((n:Int) - st))):=fun x=>Yyn hd0 hd1
 have hbe:∀x:Int,∃b:Nat,st≤b∧b < n∧(st:Int)+x % ((n:Int) - st)=(b:Int):=fun x=>by
  have h1:=Int.emod_nonneg x (show(n:Int) - st≠0 by omega)
  have h2:=Int.emod_lt_of_pos x hd0
  exact⟨((st:Int)+x % ((n:Int) - st)).toNat,by omega,by omega,by omega⟩
 have hst:Yv 8 [kdD k,.int c,.int st,.int n]=[some (.sh (kdD k)),some (.sh (.int c)),some (.sh (.int st)),some (.sh (.int n)),none,none,none,none]:=rfl
 rw[Yfb,Yac (by rfl),hst]
 obtain⟨sz0,hsm,hsa⟩:=Yrb (l:=([1,2,2,2,1,2,3,4]:List Int)) (i:=v % 8) (by omega) (by simp;omega)
 have hsz0:1≤sz0∧sz0≤4:=by
  simp at hsm
  omega
 have hix:atI [D.int 1,D.int 2,D.int 2,D.int 2,D.int 1,D.int 2,D.int 3,D.int 4] (v % 8)=some (.int sz0):=by
  rw[show[D.int 1,D.int 2,D.int 2,D.int 2,D.int 1,D.int 2,D.int 3,D.int 4]=([1,2,2,2,1,2,3,4]:List Int).map D.int from rfl,Yfk,hsa]
  rfl
 have hki:∀ρ:Ro,Ykh [1,2,2,2,1,2,3,4] ρ=some (([1,2,2,2,1,2,3,4]:List Int).map D.int):=fun ρ=>by
  unfold Ykh
  rw[if_pos (by decide)]
 have loop:∀(size:Int),0≤size→size≤4→∃(l:List Nat) (left:Int) (y:Option B),(l.length:Int)≤size∧l.Nodup∧(∀x∈l,st≤x∧x < n)∧
  M.forM (gSet 7) Ycr ((List.range (size - 0).toNat).map fun i:Nat=>D.int (0+(i:Nat))) [some (.sh (kdD k)),some (.sh (.int c)),some (.sh (.int st)),some (.sh (.int n)),some (.sh (.int (v / 8))),some (.sh (.int size)),some (.ow []),none] =
   some (.nx [some (.sh (kdD k)),some (.sh (.int c)),some (.sh (.int st)),some (.sh (.int n)),some (.sh (.int left)),some (.sh (.int size)),some (.ow (l.map nD)),y]):=by
  intro size hs0 hs4
  obtain⟨ρ',e1,l,left,y,hl,hnd,hlt,rfl⟩:=Ynm (gt:=gSet 7) (fb:=Ycr) (fun i:Nat=>D.int (0+(i:Nat))) (fun pre ρ=>∃(l:List Nat) (left:Int) (y:Option B),l.length≤pre.length∧l.Nodup∧(∀s∈l,st≤s∧s < n)∧
   ρ=[some (.sh (kdD k)),some (.sh (.int c)),some (.sh (.int st)),some (.sh (.int n)),some (.sh (.int left)),some (.sh (.int size)),some (.ow (l.map nD)),y]) (List.range (size - 0).toNat) []
   [some (.sh (kdD k)),some (.sh (.int c)),some (.sh (.int st)),some (.sh (.int n)),some (.sh (.int (v / 8))),some (.sh (.int size)),some (.ow []),none] ⟨[],v / 8,none,qt _,.nil,by simp,rfl⟩ (by
    rintro q a r ρ e ⟨l,left,y,hl,hnd,hlt,rfl⟩
    have hq:q.length < 1000:=by have:=congrArg List.length e;simp at this;omega
    have hcap:l.length < 1000000:=by omega
    obtain⟨b,hb1,hb2,hb⟩:=hbe left
    have hin:=in_n (c:=.lst (l.map nD)) b l true rfl
    simp only[nD]at hin
    by_cases hm:b∈l
    ·refine⟨_,_,rfl,?_,l,left / ((n:Int) - st),some (.sh (.int (0+(a:Int)))),by simp;omega,hnd,hlt,rfl⟩
     simp[Ycr,hmod,hdiv,hb,hin,hm,nD]
    ·refine⟨_,_,rfl,?_,l++[b],left / ((n:Int) - st),some (.sh (.int (0+(a:Int)))),by simp;omega,?_,?_,rfl⟩
     ·simp[Ycr,hmod,hdiv,hb,hin,hm,appD,hcap,nD]
     ·rw[List.nodup_append]
      refine⟨hnd,by simp,?_⟩
      intro x hx y hy z
      simp at hy
      subst hy
      exact hm (z ▸ hx)
     ·intro s hs
      rcases qu hs with hs | hs
      ·exact hlt s hs
      ·simp at hs
       subst hs
       exact⟨hb1,hb2⟩)
  refine⟨l,left,y,?_,hnd,hlt,e1⟩
  simp at hl
  omega
 by_cases hk:k=.e
 ·subst hk
  obtain⟨size,hsz,hs0,hs2⟩:∃size:Int,(if (2:Int) < sz0 then 2 else sz0)=size∧0≤size∧size≤2:=⟨_,rfl,by split<;>omega,by split<;>omega⟩
  obtain⟨l,left,y,hl,hnd,hlt,e1⟩:=loop size hs0 (by omega)
  have hr:=Yix (n:=size) (by omega) (by omega)
  rw[Yhi]at hr
  have hr2:=Yix (n:=(l.length:Int)) (by omega) (by omega)
  rw[Yhi]at hr2
  have hc:=Yf8 (fe:=Ydt) (r:=[some (.sh (.lst (l.map nD))),some (.sh (.int left))]) (enc:=fun i:Nat=>D.int (0+(i:Nat))) (fun i:Nat=>sayD (l.getD i 0,decide (left / 2 ^ i % 2=1))) (l:=List.range ((l.length:Int) - 0).toNat) (fun i hi=>by
   have hi':i < l.length:=by simpa using hi
   have h1:=Yv7 left i
   have e0:(0:Int)+(i:Int)=(i:Int):=by omega
   have hat:atI (l.map nD) (i:Int)=some (.int (l.getD i 0:Nat)):=by
    rw[Yfk,Yh8 hi']
    simp[hi',nD]
   rw[e0]
   simp[Ydt,h1,hat,sayD])
  generalize hsl:(List.range l.length).map (fun i:Nat=>((l.getD i 0,decide (left / 2 ^ i % 2=1)):Say))=sl
  have hsl1:sl.map (·.1)=l:=by
   rw[←hsl,Qj]
   refine List.ext_getElem (by simp) fun i h1 h2=>?_
   simp[h2]
  obtain⟨l',hp,hpw,hs⟩:=Ywz sl (by rw[←hsl];simp;omega) (by rw[hsl1];exact hnd)
  have hmem:∀s∈l',st≤s.1∧s.1 < n:=fun s hs=>hlt s.1 (by rw[←hsl1];exact List.mem_map_of_mem (hp.mem_iff.mp hs))
  refine⟨.ei l',⟨rfl,fun s hs=>(hmem s hs).2⟩,⟨by rw[hp.length_eq,←hsl];simp;omega,hpw⟩,fun x hx=>?_,?_⟩
  ·obtain⟨s,hs',rfl⟩:=qw hx
   exact(hmem s hs').1
  ·have hc':Ygu (gSet 0) tY Ydt [none,some (.sh (.lst (l.map nD))),some (.sh (.int left))] ((List.range ((l.length:Int) - 0).toNat).map fun i:Nat=>D.int (0+(i:Nat)))=some (sl.map sayD):=by
    rw[hc,←hsl,Qj]
    simp[Function.comp_def]
   simp[Ydw,hv,hki,hix,hsz,hr]at e1 ⊢
   rw[e1]
   simp[hr2,capR]at hc' ⊢
   rw[hc']
   simp[hs,rlD]
 ·obtain⟨l,left,y,hl,hnd,hlt,e1⟩:=loop sz0 (by omega) hsz0.2
  have hr:=Yix (n:=sz0) (by omega) (by omega)
  rw[Yhi]at hr
  obtain⟨l',hp,hpw,hs⟩:=Ylh l hnd (by omega)
  have hmem:∀s∈l',st≤s∧s < n:=fun s hs=>hlt s (hp.mem_iff.mp hs)
  by_cases hks:k=.s
  ·subst hks
   refine⟨.su l' (decide (left % 2=1)),⟨rfl,fun s hs=>(hmem s hs).2⟩,hpw,fun x hx=>(hmem x hx).1,?_⟩
   simp[Ydw,hv,hki,hix,hr]at e1 ⊢
   rw[e1]
   simp[hs,rlD]
  ·have hki2:k=.i∨k=.n:=by cases k<;>simp at hk hks ⊢
   by_cases h4:left % 4=0
   ·refine⟨.im l' none,⟨hki2,fun s hs=>(hmem s hs).2,fun x hx=>by cases hx⟩,hpw,fun x hx=>(hmem x hx).1,?_⟩
    simp[Ydw,hv,hki,hix,hr,hk,hks]at e1 ⊢
    rw[e1]
    simp[hs,rlD,hks,h4,hk,optD]
   ·obtain⟨b,hb1,hb2,hb⟩:=hbe (left / 4)
    by_cases h1:left % 4=1
    ·have hcut:cutD (l.map nD) (some 1) none=(l.map nD).drop 1:=by
      have hm:=HT.sIx_nat (l.map nD).length 0 1
      unfold cutD
      simp at hm
      simp[hm,HT.sIx]
      cases l with
      | nil=>simp
      | cons a l=>simp;exact List.take_of_length_le (by simp)
     obtain⟨m,hpm,hpwm,hsm'⟩:=Ylh (l.drop 1) (hnd.sublist (List.drop_sublist 1 l)) (by simp;omega)
     have hmm:∀s∈m,st≤s∧s < n:=fun s hs=>hlt s (List.mem_of_mem_drop (hpm.mem_iff.mp hs))
     refine⟨.im m (some b),⟨hki2,fun s hs=>(hmm s hs).2,fun x hx=>by cases hx;exact hb2⟩,hpwm,fun x hx=>?_,?_⟩
     ·simp[bcs]at hx
      rcases hx with hx | rfl
      ·exact(hmm x hx).1
      ·exact hb1
     ·simp[Ydw,hv,hki,hix,hr,hk,hks]at e1 ⊢
      rw[e1]
      simp at hsm'
      simp[hs,rlD,hks,h4,h1,hk,optD,hcut,hmod,hb,hsm']
    ·refine⟨.im l' (some b),⟨hki2,fun s hs=>(hmem s hs).2,fun x hx=>by cases hx;exact hb2⟩,hpw,fun x hx=>?_,?_⟩
     ·simp[bcs]at hx
      rcases hx with hx | rfl
      ·exact(hmem x hx).1
      ·exact hb1
     ·simp[Ydw,hv,hki,hix,hr,hk,hks]at e1 ⊢
      rw[e1]
      simp[hs,rlD,hks,h4,h1,hk,optD,hmod,hb]
end Lw
namespace Lw
open PySem L2 M Bk
theorem y5d(a b:Bool):eqM false (hdD a) (hdD b)=some (a==b):=by
 rw[Yg0 (by simp[hdD]) (by simp[hdD])]
 cases a<;>cases b<;>decide +kernel
noncomputable def ofH(hs:List Bool)(st:Nat)(b:Bool):List Nat:=(List.range hs.length).filter fun i=>decide (st≤i)&&(hs.getD i false==b)
theorem Ybq{c:D}(hs:List Bool)(hc:Yr c=some (hs.map hdD))(hl:hs.length≤1000)(st:Nat)(hst:st≤hs.length)(b:Bool):Yad [c,.int st,hdD b]=some (.lst ((ofH hs st b).map nD)):=by
 rw[Yad,Yac (by rfl)]
 have hr:=y11 (a:=(st:Int)) (n:=(hs.length:Int)) (by omega) (by omega) (by omega) (by omega)
 rw[Yhi]at hr
 have hcm:=Yjc (fc:=Yc1) (fe:=Yc2) (r:=[some (.sh c),some (.sh (hdD b))]) (enc:=fun i:Nat=>D.int ((st:Int)+(i:Nat))) (fun i:Nat=>hs.getD (st+i) false==b) (fun i:Nat=>nD (st+i)) (l:=List.range ((hs.length:Int) - st).toNat) (fun i hi=>by
  have hi':st+i < hs.length:=by simp at hi;omega
  have e0:(st:Int)+(i:Int)=((st+i:Nat):Int):=by omega
  have hat:atI (hs.map hdD) ((st+i:Nat):Int)=some (hdD (hs.getD (st+i) false)):=by
   rw[Yfk,Yh8 hi']
   simp[hi']
  rw[e0]
  simp only[Yc1,y1v,gCs,gC0,qc,y1z,hc,hat,y5d]) (fun i _ _=>by simp[Yc2,nD])
 have he:(((List.range ((hs.length:Int) - st).toNat).filter fun i:Nat=>hs.getD (st+i) false==b).map fun i:Nat=>nD (st+i))=(ofH hs st b).map nD:=by
  unfold ofH
  have h1:List.range hs.length=List.range st++(List.range (hs.length - st)).map (st+·):=by
   rw[←List.range_add]
   congr 1
   omega
  rw[h1,List.filter_append,List.filter_map]
  have h2:(List.range st).filter (fun i=>decide (st≤i)&&(hs.getD i false==b))=[]:=by
   rw[List.filter_eq_nil_iff]
   intro x hx
   have:=Qa hx
   simp
   omega
  have h3:((hs.length:Int) - st).toNat=hs.length - st:=by omega
  rw[h2,h3,List.nil_append,Qj]
  simp[Function.comp_def]
 have h3:((hs.length:Int) - st).toNat=hs.length - st:=by omega
 rw[he,h3]at hcm
 rw[h3]at hr
 simp[Yg4,Yv,hc,hr,capR,hcm]
end Lw
namespace Lw
open PySem L2 M Bk
noncomputable def kDct(ks:List Nat):D:=.dct false (ks.map nD) (ks.map fun _=>.bl true)
theorem Yqe(l:List Nat):Ycu (l.map nD)=some (l.map fun x:Nat=>(x:Int)):=Ykp (fun x:Nat=>(x:Int)) l
theorem Yih(x:Nat)(ks:List Nat):((x:Int)∈ks.map fun x:Nat=>(x:Int))↔x∈ks:=by
 constructor
 ·intro h
  obtain⟨y,hy,e⟩:=qw h
  have:y=x:=by omega
  exact this ▸ hy
 ·exact fun h=>List.mem_map_of_mem h
theorem y61(x:Nat)(ks:List Nat)(neg:Bool):hasI neg (nD x) (kDct ks)=some (decide (x∈ks) != neg):=by
 rw[show nD x=.int x from rfl,kDct,Yx7,Yqe,Option.map_some,decide_eq_decide.mpr (Yih x ks)]
theorem y5e(x:Nat)(ks:List Nat)(neg:Bool):hasN neg (.int (x:Int)) (kDct ks)=some (decide (x∈ks) != neg):=by
 rw[kDct,Yyd,Yqe,Option.map_some,decide_eq_decide.mpr (Yih x ks)]
theorem y2d(ks:List Nat)(hk:∀x∈ks,x < 60)(neg:Bool):hasN neg .non (kDct ks)=some (false != neg):=by
 rw[kDct,Yye,Yqe,qc,if_pos]
 unfold Yml
 rw[List.all_eq_true]
 intro n hn
 obtain⟨y,hy,rfl⟩:=qw hn
 have:=hk y hy
 simp only[decide_eq_true_eq]
 omega
theorem y5f(x:Nat)(ks:List Nat):inM false (nD x) (kDct ks)=none:=rfl
theorem Yjr(r:IfR)(ks:List Nat):Yai [ifD r,kDct ks]=some (.bl (kn r.1 ks)):=by
 rw[Yai,Yac (by rfl)]
 have h:=Yf8 (fe:=Ya6) (r:=[some (.sh (kDct ks))]) (enc:=nD) (fun x=>D.bl (decide (x∈ks))) (l:=r.1) (fun x _=>by simp[Ya6,y61 x ks false,y5f x ks])
 simp[Yd4,Yv,capR,h,kn,List.all_map,Function.comp_def]
theorem Yt7(R:List IfR)(ks:List Nat)(i:Nat)(h:i < R.length):Ycm [Yx R,kDct ks,.int (i:Int)]=some (.bl ((rAt R i).2.isSome&&kn (rAt R i).1 ks)):=by
 rw[Ycm,Yac (by rfl)]
 have h1:=Yqd (R:=R) (i:=(i:Int)) ⟨by omega,by omega⟩
 have h2:=Yjr (rAt R i) ks
 have h3:=Ygr R i
 rw[decide_eq_true (by omega)]at h3
 cases hh:(rAt R i).2 with
 | none=>simp[Ye7,Yv,h3,h1,hh,optD]
 | some x=>simp[Ye7,Yv,h3,h1,h2,hh,optD]
noncomputable def okS(R:List IfR)(ks:List Nat)(i:Nat):Bool:=match (rAt R i).2 with
 | none=>false
 | some x=>!decide (x∈ks)&&kn (rAt R i).1 ks
noncomputable def nxt(R:List IfR)(ks:List Nat):Option Nat:=(List.range R.length).find? (okS R ks)
theorem Yli{gt:D→Ro→Option Ro}{fb:Ro→Option Out}{α:Type}(enc:α→D)(p:α→Bool)(res:α→D)(I:Ro→Prop):∀(l:List α) (ρ:Ro),I ρ→
 (∀a∈l,∀ρ,I ρ→∃ρ1,gt (enc a) ρ=some ρ1∧((p a=false∧∃ρ2,fb ρ1=some (.nx ρ2)∧I ρ2)∨(p a=true∧fb ρ1=some (.rt (res a)))))→
 (∃a,l.find? p=some a∧M.forM gt fb (l.map enc) ρ=some (.rt (res a)))∨(l.find? p=none∧∃ρ',M.forM gt fb (l.map enc) ρ=some (.nx ρ')∧I ρ')
 | [],ρ,h0,_=>.inr ⟨rfl,ρ,rfl,h0⟩
 | a::l,ρ,h0,hs=>by
   obtain⟨ρ1,e1,h⟩:=hs a qg ρ h0
   rw[Qc,M.forM,e1,qc,List.find?_cons]
   rcases h with⟨hp,ρ2,e2,h2⟩ | ⟨hp,e2⟩
   ·rw[e2,qc,hp]
    exact Yli enc p res I l ρ2 h2 fun b hb=>hs b (qf _ hb)
   ·rw[e2,qc,hp]
    exact .inl ⟨a,rfl,rfl⟩
theorem Yoh(R:List IfR):Ykf (R.map ifD)=(List.range R.length).map fun i:Nat=>D.tup [.int (i:Int),ifD (rAt R i)]:=by
 unfold Ykf
 rw[qe]
 refine List.map_congr_left fun i hi=>?_
 have hi':i < R.length:=Qa hi
 rw[rAt,Int.toNat_natCast,Qn,Qg,Qn,qp hi']
 rfl
theorem Yg6(R:List IfR)(ks:List Nat)(hk:∀x∈ks,x < 60):Ybn [Yx R,kDct ks]=some (optD (nxt R ks)):=by
 rw[Ybn,Yac (by rfl)]
 have hst:Yv 4 [Yx R,kDct ks]=[some (.sh (Yx R)),some (.sh (kDct ks)),none,none]:=rfl
 rw[hst]
 have h:=Yli (gt:=Yj9 2 3) (fb:=Yaz) (fun i:Nat=>D.tup [.int (i:Int),ifD (rAt R i)]) (okS R ks) (fun i:Nat=>D.int (i:Int)) (fun ρ=>∃y z,ρ=[some (.sh (Yx R)),some (.sh (kDct ks)),y,z]) (List.range R.length)
  [some (.sh (Yx R)),some (.sh (kDct ks)),none,none] ⟨none,none,rfl⟩ (by
   rintro i hi ρ ⟨y,z,rfl⟩
   have hi':i < R.length:=Qa hi
   refine⟨[some (.sh (Yx R)),some (.sh (kDct ks)),some (.sh (.int (i:Int))),some (.sh (ifD (rAt R i)))],rfl,?_⟩
   have hs:=Yt7 R ks i hi'
   have hnn:=y2d ks hk true
   unfold okS
   cases hh:(rAt R i).2 with
   | none=>
     left
     rw[hh]at hs
     refine⟨rfl,[some (.sh (Yx R)),some (.sh (kDct ks)),some (.sh (.int (i:Int))),some (.sh (ifD (rAt R i)))],?_,_,_,rfl⟩
     simp[Yaz,hh,optD,hnn,hs]
   | some x=>
     rw[hh]at hs
     have hx:=y5e x ks true
     by_cases hm:x∈ks
     ·left
      refine⟨by simp[hm],[some (.sh (Yx R)),some (.sh (kDct ks)),some (.sh (.int (i:Int))),some (.sh (ifD (rAt R i)))],?_,_,_,rfl⟩
      simp[Yaz,hh,optD,hx,hm]
     ·cases hkn:kn (rAt R i).1 ks with
      | false=>
        left
        rw[hkn]at hs
        refine⟨by simp,[some (.sh (Yx R)),some (.sh (kDct ks)),some (.sh (.int (i:Int))),some (.sh (ifD (rAt R i)))],?_,_,_,rfl⟩
        simp[Yaz,hh,optD,hx,hm,hs]
      | true=>
        right
        rw[hkn]at hs
        refine⟨by simp[hm],?_⟩
        simp[Yaz,hh,optD,hx,hm,hs])
 rw[Yg3]
 rcases h with⟨i,h1,h2⟩ | ⟨h1,ρ',h2,h3⟩
 ·simp only[Ynl,Ywj,y43,y1v]
  simp[Ylq,Yoh,h2,nxt,h1,optD]
 ·simp[Ylq,Yoh,h2,nxt,h1,optD]
theorem Ysz{R:List IfR}{ks:List Nat}{i:Nat}(h:nxt R ks=some i):i < R.length∧∃x,(rAt R i).2=some x∧x∉ks∧kn (rAt R i).1 ks=true:=by
 unfold nxt at h
 have h1:=List.mem_of_find?_eq_some h
 have h2:=List.find?_some h
 unfold okS at h2
 refine⟨Qa h1,?_⟩
 cases hh:(rAt R i).2 with
 | none=>rw[hh]at h2;cases h2
 | some x=>
   rw[hh]at h2
   simp at h2
   exact⟨x,rfl,h2.1,h2.2⟩
theorem Yyw{R:List IfR}{ks:List Nat}(h:nxt R ks=none){i:Nat}(hi:i < R.length){x:Nat}(hx:(rAt R i).2=some x)(hk:kn (rAt R i).1 ks=true):x∈ks:=by
 unfold nxt at h
 have:=List.find?_eq_none.mp h i (List.mem_range.mpr hi)
 unfold okS at this
 rw[hx]at this
 simp[hk]at this
 exact this
theorem Yfv:∀(n:Nat) (l:List Nat),l.Nodup→(∀x∈l,x < n)→l.length≤n
 | 0,l,_,h=>by
   cases l with
   | nil=>simp
   | cons a l=>exact absurd (h a qg) (by omega)
 | n+1,l,hn,h=>by
   have h1:=Yfv n (l.erase n) (hn.erase n) fun x hx=>by
    obtain⟨h1,h2⟩:=(hn.mem_erase_iff).mp hx
    have:=h x h2
    omega
   rw[List.length_erase]at h1
   split at h1<;>omega
noncomputable def Der(R:List IfR):List Nat→List Nat→Prop
 | _,[]=>True
 | ks,i::is=>(i < R.length∧(∃x,(rAt R i).2=some x)∧kn (rAt R i).1 ks=true)∧Der R (ks++[hdN (rAt R i)]) is
theorem Ys0{b ks fs:List Nat}(h:∀x,x∈ks↔x∈fs):kn b ks=kn b fs:=by
 unfold kn
 congr 1
 funext x
 rw[decide_eq_decide.mpr (h x)]
theorem Der.congr{R:List IfR}:∀{is ks fs:List Nat},(∀x,x∈ks↔x∈fs)→Der R ks is→Der R fs is
 | [],_,_,_,_=>trivial
 | i::is,ks,fs,h,d=>by
   obtain⟨⟨h1,h2,h3⟩,d⟩:=d
   refine⟨⟨h1,h2,by rw[←Ys0 h];exact h3⟩,Der.congr (fun x=>?_) d⟩
   simp[h x]
theorem Yw0(R:List IfR)(hRo:∀r∈R,∀x,r.2=some x→x < 60)(y:Option B):∀(m fuel:Nat) (ks is:List Nat),60≤ks.length+m→m+1≤fuel→ks.Nodup→(∀x∈ks,x < 60)→is.length+m≤1000→
 ∃js:List Nat,nxt R (ks++js.map fun i:Nat=>hdN (rAt R i))=none∧(ks++js.map fun i:Nat=>hdN (rAt R i)).Nodup∧(∀x∈ks++js.map (fun i:Nat=>hdN (rAt R i)),x < 60)∧Der R ks js∧js.length≤m∧
  Yfx (b2 (getC 4) (kD .non) (isN true)) Yba fuel [some (.sh (Yx R)),y,some (.od false (ks.map nD) (ks.map fun _=>.bl true)),some (.ow (is.map nD)),some (.sh (optD (nxt R ks)))] =
   some (.nx [some (.sh (Yx R)),y,some (.od false ((ks++js.map fun i:Nat=>hdN (rAt R i)).map nD) ((ks++js.map fun i:Nat=>hdN (rAt R i)).map fun _=>.bl true)),some (.ow ((is++js).map nD)),some (.sh .non)]):=by
 intro m
 induction m with
 | zero=>
   intro fuel ks is h1 h2 hn hk hi
   have hks:nxt R ks=none:=by
    cases h:nxt R ks with
    | none=>rfl
    | some i=>
      obtain⟨hl,x,hx,hxk,_⟩:=Ysz h
      have hx60:x < 60:=by
       refine hRo (rAt R i) ?_ x hx
       unfold rAt
       rw[Int.toNat_natCast,Qn,qp hl]
       exact qx hl
      have:=Yfv 60 (ks++[x]) (by
       rw[List.nodup_append]
       refine⟨hn,by simp,fun a ha b hb z=>?_⟩
       simp at hb
       subst hb z
       exact hxk ha) (fun z hz=>by
       rcases qu hz with hz | hz
       ·exact hk z hz
       ·simp at hz;subst hz;exact hx60)
      simp at this
      omega
   refine⟨[],by simpa using hks,by simpa using hn,by simpa using hk,trivial,qt _,?_⟩
   cases fuel with
   | zero=>omega
   | succ fuel=>
     rw[Yfx,hks]
     simp[optD]
 | succ m ih=>
   intro fuel ks is h1 h2 hn hk hi
   cases fuel with
   | zero=>omega
   | succ fuel=>
     cases h:nxt R ks with
     | none=>
       refine⟨[],by simpa using h,by simpa using hn,by simpa using hk,trivial,Nat.zero_le _,?_⟩
       rw[Yfx]
       simp[optD]
     | some i=>
       obtain⟨hl,x,hx,hxk,hkn⟩:=Ysz h
       have hx60:x < 60:=by
        refine hRo (rAt R i) ?_ x hx
        unfold rAt
        rw[Int.toNat_natCast,Qn,qp hl]
        exact qx hl
       have hhd:hdN (rAt R i)=x:=by simp[hdN,hx]
       have hn':(ks++[x]).Nodup:=by
        rw[List.nodup_append]
        refine⟨hn,by simp,fun a ha b hb z=>?_⟩
        simp at hb
        subst hb z
        exact hxk ha
       have hk':∀z∈ks++[x],z < 60:=fun z hz=>by
        rcases qu hz with hz | hz
        ·exact hk z hz
        ·simp at hz;subst hz;exact hx60
       obtain⟨js,k1,k2,k3,k4,k5,k6⟩:=ih fuel (ks++[x]) (is++[i]) (by simp;omega) (by omega) hn' hk' (by simp;omega)
       have e1:ks++(i::js).map (fun i:Nat=>hdN (rAt R i))=ks++[x]++js.map fun i:Nat=>hdN (rAt R i):=by simp[hhd]
       refine⟨i::js,by rw[e1];exact k1,by rw[e1];exact k2,by rw[e1];exact k3,⟨⟨hl,⟨x,hx⟩,hkn⟩,by rw[hhd];exact k4⟩,by simp;omega,?_⟩
       rw[e1]
       have e2:is++i::js=is++[i]++js:=by simp
       rw[e2,←k6,Yfx]
       have hcap1:is.length < 1000000:=by omega
       have hcap2:ks.length < 1000000:=by have:=Yfv 60 ks hn hk;omega
       have hst:=Yg6 R (ks++[x]) hk'
       have hat:=Yqd (R:=R) (i:=(i:Int)) ⟨by omega,by omega⟩
       have hput:Yv2 (ks.map nD) (ks.map fun _=>.bl true) (.int (x:Int)) (.bl true)=some ((ks++[x]).map nD,(ks++[x]).map fun _=>.bl true):=by
        have hm:¬(x:Int)∈ks.map fun x:Nat=>(x:Int):=fun z=>hxk ((Yih x ks).mp z)
        rw[Ypd,Yqe,qc,qe,if_pos (show ks.length < cap6 from hcap2),if_neg hm]
        simp[nD]
       have hsc:scal (optD (nxt R (ks++[x])))=some (optD (nxt R (ks++[x]))):=by cases nxt R (ks++[x])<;>simp[optD]
       have hfz:frz1 2 [some (.sh (Yx R)),y,some (.od false ((ks++[x]).map nD) ((ks++[x]).map fun _=>.bl true)),some (.ow ((is++[i]).map nD)),some (.sh (.int (i:Int)))]=[some (.sh (Yx R)),y,some (.sh (kDct (ks++[x]))),some (.ow ((is++[i]).map nD)),some (.sh (.int (i:Int)))]:=rfl
       have hb:Yba [some (.sh (Yx R)),y,some (.od false (ks.map nD) (ks.map fun _=>.bl true)),some (.ow (is.map nD)),some (.sh (.int (i:Int)))] =
        some (.nx [some (.sh (Yx R)),y,some (.od false ((ks++[x]).map nD) ((ks++[x]).map fun _=>.bl true)),some (.ow ((is++[i]).map nD)),some (.sh (optD (nxt R (ks++[x]))))]):=by
        have happ:is.map nD++[D.int (i:Int)]=(is++[i]).map nD:=by simp[nD]
        unfold Yba
        simp only[Ynl,y1w]
        have ho:optD (some x)=.int (x:Int):=rfl
        generalize optD (nxt R (ks++[x]))=nx at *
        generalize (ks++[x]).map nD=K2 at *
        generalize ((ks++[x]).map fun _=>D.bl true)=V2 at *
        generalize (is++[i]).map nD=I2 at *
        simp[appD,hcap1,hat,hx,ho,hput,happ,hfz,hst,hsc,-Ypd]
       simp[optD,hb,-List.map_append]
theorem Ymt{α β:Type} [DecidableEq α] (x:α) (y:β):∀(ks:List α),setK ks (ks.map fun _=>y) x y=ks.map fun _=>y
 | []=>rfl
 | k::ks=>by
   rw[Qc,setK]
   split
   ·rfl
   ·rw[Ymt x y ks]
noncomputable def dd(ks:List Nat):List Nat→List Nat
 | []=>ks
 | x::fs=>dd (if x∈ks then ks else ks++[x]) fs
theorem Yw1:∀(fs ks:List Nat) (x:Nat),x∈dd ks fs↔x∈ks∨x∈fs
 | [],ks,x=>by simp[dd]
 | k::fs,ks,x=>by
   rw[dd,Yw1 fs]
   by_cases h:k∈ks
   ·rw[if_pos h]
    simp
    constructor
    ·rintro(h1 | h1)
     ·exact .inl h1
     ·exact .inr (.inr h1)
    ·rintro(h1 | h1 | h1)
     ·exact .inl h1
     ·subst h1;exact .inl h
     ·exact .inr h1
   ·rw[if_neg h]
    simp[or_assoc]
theorem Ys1:∀(fs ks:List Nat),ks.Nodup→(dd ks fs).Nodup
 | [],_,h=>h
 | k::fs,ks,h=>by
   rw[dd]
   refine Ys1 fs _ ?_
   by_cases hk:k∈ks
   ·rw[if_pos hk];exact h
   ·rw[if_neg hk,List.nodup_append]
    refine⟨h,by simp,fun x hx y hy z=>?_⟩
    simp at hy
    subst hy
    exact hk (z ▸ hx)
theorem Yw2:∀(fs ks:List Nat),dctG (ks.map fun x:Nat=>(x:Int)) (ks.map fun _=>D.bl true) (fs.map fun x:Nat=>((x:Int),D.bl true))=((dd ks fs).map (fun x:Nat=>(x:Int)),(dd ks fs).map fun _=>D.bl true)
 | [],ks=>rfl
 | x::fs,ks=>by
   rw[Qc,dctG,dd]
   unfold putG
   dsimp only
   by_cases h:x∈ks
   ·rw[if_pos ((Yih x ks).mpr h),if_pos h]
    dsimp only
    have e:=Ymt (x:Int) (D.bl true) (ks.map fun x:Nat=>(x:Int))
    rw[Qj]at e
    have e':setK (ks.map fun x:Nat=>(x:Int)) (ks.map fun _=>D.bl true) (x:Int) (D.bl true)=ks.map fun _=>D.bl true:=e
    rw[e']
    exact Yw2 fs ks
   ·rw[if_neg (fun z=>h ((Yih x ks).mp z)),if_neg h]
    have:=Yw2 fs (ks++[x])
    rw[List.map_append,List.map_append]at this
    exact this
theorem Yw3:∀fs:List Nat,Ygz (fs.map fun x=>D.tup [nD x,.bl true])=some (fs.map fun x:Nat=>((x:Int),D.bl true))
 | []=>by simp[Ygz]
 | x::fs=>by
   rw[Qc,show nD x=.int x from rfl,Ygz,Yw3 fs]
   rfl
theorem Yyx(l:List Nat)(vs:List D)(hn:l.Nodup)(hl:l.length < 64):∃l':List Nat,l'.Perm l∧l'.Pairwise (· < ·)∧Yki [.dct false (l.map nD) vs]=some (l'.map nD):=by
 obtain⟨l',h1,h2,h3⟩:=Ylh l hn hl
 refine⟨l',h1,h2,?_⟩
 rw[←h3,Yq4]
 show _=Ytk _
 unfold Ytk
 rw[Yqe]
 simp[hl]
structure Full(R:List IfR)(fs l js:List Nat):Prop where
 pw:l.Pairwise (· < ·)
 mem:∀x,x∈l↔x∈fs++js.map fun i:Nat=>hdN (rAt R i)
 der:Der R fs js
 none:∀i,i < R.length→∀x,(rAt R i).2=some x→kn (rAt R i).1 l=true→x∈l
 lt:∀x∈l,x < 60
 len:js.length≤60
theorem Yzr{c:D}(R:List IfR)(hRo:∀r∈R,∀x,r.2=some x→x < 60)(fs:List Nat)(hf:∀x∈fs,x < 60)(hfl:fs.length≤1000)(hc:Yr c=some (fs.map nD)) :
 ∃l js,Full R fs l js∧Yam [Yx R,c]=some (.tup [.lst (l.map nD),.tup (js.map nD)]):=by
 have hks:∀x∈dd [] fs,x < 60:=fun x hx=>by
  rw[Yw1]at hx
  simp at hx
  exact hf x hx
 have hnd:(dd [] fs).Nodup:=Ys1 fs [] .nil
 obtain⟨js,k1,k2,k3,k4,k5,k6⟩:=Yw0 R hRo (some (.sh c)) 60 4000 (dd [] fs) [] (by omega) (by omega) hnd hks (by simp)
 have hlen:=Yfv 60 _ k2 k3
 obtain⟨l,h1,h2,h3⟩:=Yyx (dd [] fs++js.map fun i:Nat=>hdN (rAt R i)) ((dd [] fs++js.map fun i:Nat=>hdN (rAt R i)).map fun _=>.bl true) k2 (by omega)
 have hmd:∀x,x∈dd [] fs↔x∈fs:=fun x=>by rw[Yw1];simp
 refine⟨l,js,⟨h2,fun x=>?_,k4.congr hmd,fun i hi x hx hk=>?_,fun x hx=>k3 x (h1.mem_iff.mp hx),k5⟩,?_⟩
 ·rw[h1.mem_iff,List.mem_append,List.mem_append,hmd]
 ·rw[h1.mem_iff]
  exact Yyw k1 hi hx (by rw[←hk];exact Ys0 fun z=>h1.mem_iff.symm)
 ·rw[Yam,Yac (by rfl)]
  have hst:Yv 5 [Yx R,c]=[some (.sh (Yx R)),some (.sh c),none,none,none]:=rfl
  rw[hst]
  have hcomp:=Yf8 (fe:=Ya9) (r:=[]) (enc:=nD) (fun x=>D.tup [nD x,.bl true]) (l:=fs) (fun x _=>by simp[Ya9,nD])
  have hst2:=Yg6 R (dd [] fs) hks
  have hsc:scal (optD (nxt R (dd [] fs)))=some (optD (nxt R (dd [] fs))):=by cases nxt R (dd [] fs)<;>simp[optD]
  have hdct:=Yw2 fs []
  rw[List.map_nil,List.map_nil]at hdct
  have hcap:(fs.map fun x:Nat=>((x:Int),D.bl true)).length < 1000000:=by rw[qe];omega
  have hcap':(fs.map fun x:Nat=>((x:Int),D.bl true)).length < cap6:=hcap
  have hmm:((dd [] fs).map fun x:Nat=>(x:Int)).map D.int=(dd [] fs).map nD:=by rw[Qj];rfl
  have hfz:frz1 2 [some (.sh (Yx R)),some (.sh c),some (.od false ((dd [] fs).map nD) ((dd [] fs).map fun _=>.bl true)),some (.ow []),none]=[some (.sh (Yx R)),some (.sh c),some (.sh (kDct (dd [] fs))),some (.ow []),none]:=rfl
  have hd1:(sDct 2 (lF (Ybs (b1 (getV 1) Yr) [none] (gSet 0) tY (Ya9)))) [some (.sh (Yx R)),some (.sh c),none,none,none]=some (.nx [some (.sh (Yx R)),some (.sh c),some (.od false ((dd [] fs).map nD) ((dd [] fs).map fun _=>.bl true)),none,none]):=by
   simp only[y1i]
   simp[hc,capR,hcomp,Yw3]
   rw[hdct]
   exact⟨by omega,hmm,rfl⟩
  rw[Ye8]
  simp only[Ynl,hd1,qc]
  generalize hK:(dd [] fs++js.map fun i:Nat=>hdN (rAt R i))=ks at *
  generalize dd [] fs=k0 at *
  simp[hfz,hst2,hsc]
  simp at k6
  simp[k6,h3]
end Lw
namespace Lw
open PySem L2 M Bk
noncomputable def imR(r:IfR):Rl:=.im r.1 r.2
theorem y62(R:List IfR):(R.map imR).map rlD=R.map ifD:=by rw[Qj];rfl
theorem y2e(R:List IfR):Yjh .i (R.map imR)=Yx R:=by unfold Yjh Yx;rw[y62];rfl
noncomputable def hdsR(R:List IfR)(is:List Int):List Nat:=is.map fun i=>hdN (rAt R i)
theorem Yru{R:List IfR}:∀{is:List Int} {fs:List Nat},derB R fs is=true→∀i∈is,(0≤i∧i < R.length)∧optD (rAt R i).2=nD (hdN (rAt R i))∧∃x,(rAt R i).2=some x
 | [],_,_,i,hi=>by simp at hi
 | j::is,fs,h,i,hi=>by
   rw[derB,Qd]at h
   rcases qr hi with rfl | hi
   ·obtain⟨h1,h2⟩:=Ysy h.1
    refine⟨h1,h2,?_⟩
    have:=h.1
    unfold stp at this
    simp only[Qd]at this
    exact Option.isSome_iff_exists.mp this.2.1
   ·exact Yru h.2 i hi
theorem y5g{R:List IfR}{n:Nat}(hR:∀r∈R,∀x,r.2=some x→x < n){is:List Int}{fs:List Nat}(h:derB R fs is=true):∀x∈hdsR R is,x < n:=fun x hx=>by
 obtain⟨i,hi,rfl⟩:=qw hx
 obtain⟨h1,_,y,hy⟩:=Yru h i hi
 have hm:rAt R i∈R:=by
  unfold rAt
  rw[Qn,qp (by omega)]
  exact qx _
 rw[hdN,hy]
 exact hR _ hm y hy
theorem Ymu{R:List IfR}{is:List Int}{fs:List Nat}(h:derB R fs is=true){fe:Ro→Option D}{r:Ro}(hf:∀i∈is,(0≤i∧i < R.length)→fe (some (.sh (.int i))::r)=some (optD (rAt R i).2)) :
 Ygu (gSet 0) tY fe (none::r) (is.map D.int)=some ((hdsR R is).map nD):=by
 rw[Yf8 (fe:=fe) (r:=r) (enc:=D.int) (fun i=>nD (hdN (rAt R i))) (l:=is) (fun i hi=>by
  obtain⟨h1,h2,_⟩:=Yru h i hi
  rw[hf i hi h1,h2])]
 simp[hdsR,Function.comp_def]
theorem Yw4(R:List IfR){n:Nat}(hn:n < 64)(hR:∀r∈R,∀x,r.2=some x→x < n){c d:D}{fs:List Nat}{is:List Int}(hfs:∀x∈fs,x < n)(hc:Yr c=some (fs.map nD))(hd:Yr d=some (is.map D.int))(hl:fs.length+is.length≤1000)(h:derB R fs is=true) :
 ∃l:List Nat,(∀x,x∈l↔x∈fs++hdsR R is)∧Yga [Yx R,c,d]=some (.lst (l.map nD)):=by
 have hcm:=Ymu h (fe:=Yf9) (r:=[some (.sh (Yx R))]) (fun i hi hv=>by
  have hat:=Yqd hv
  simp[Yf9,hat])
 obtain⟨l,_,hm,hs⟩:=Yjz hn (fs++hdsR R is) (fun x hx=>(qu hx).elim (hfs x) (y5g hR h x)) (by simp[hdsR];omega)
 refine⟨l,hm,?_⟩
 have hcat:=Yf7 (a:=fs.map nD) (b:=(hdsR R is).map nD) (by simp[hdsR];omega)
 rw[List.map_append]at hs
 rw[Yga,Yac (by rfl)]
 generalize Yx R=bk at *
 generalize fs.map nD=F1 at *
 generalize (hdsR R is).map nD=F2 at *
 simp[Ypo,Yv,hc,hd,capR,hcm,hcat,hs]
theorem Yyy{α:Type}(f:α→D)(l:List α):cutD (l.map f) none (some (-1))=l.dropLast.map f:=by
 have e:HT.sIx (l.map f).length (l.map f).length (some (-1))=l.length - 1:=by
  rw[qe]
  unfold HT.sIx
  simp
  omega
 unfold cutD
 rw[e,HT.sIx_none]
 simp[List.dropLast_eq_take]
theorem Yw5{l:List Int}(h:0 < l.length):atI (l.map D.int) (-1)=some (.int (l.getD (l.length - 1) 0)):=by
 have e:ixN (l.map D.int).length (-1)=some (l.length - 1):=by
  unfold ixN
  rw[qe,if_neg (by omega),if_pos (by omega)]
  congr 1
  omega
 have hx:l[l.length - 1]?=some (l[l.length - 1]'(by omega)):=qp _
 unfold atI
 rw[e,qc,Qg,Qn,hx]
 rfl
theorem Yoi(neg:Bool)(x:Nat)(b:Option Nat):eqM neg (.int (x:Int)) (optD b)=some (if neg then !decide (some x=b)else decide (some x=b)):=by
 cases b with
 | none=>
   have:eqD (.int (x:Int)) .non=false:=by simp[eqD,toPy,PyData.eqv]
   rw[Yg0 (by simp) (by simp)]
   simp[optD,this]
 | some y=>simp[optD]
theorem Ys2(neg:Bool)(a b:Option Nat):eqM neg (optD a) (optD b)=some (if neg then !decide (a=b)else decide (a=b)):=by
 cases a with
 | some x=>exact Yoi neg x b
 | none=>
   rw[Yg0 (by simp) (by simp)]
   cases b with
   | none=>
     have:eqD .non .non=true:=by simp[eqD,toPy,PyData.eqv]
     simp[optD,this]
   | some y=>
     have:eqD .non (.int (y:Int))=false:=by simp[eqD,toPy,PyData.eqv]
     simp[optD,this]
noncomputable def wob(b:Option Nat)(S:List Nat):List Nat:=S.filter fun y=>!decide (some y=b)
theorem Yqf(S:List Nat)(b:Option Nat):Ybw [.lst (S.map nD),optD b]=some (.tup ((wob b S).map nD)):=by
 rw[Ybw,Yac (by rfl)]
 have h:=Yjc (fc:=Ydh) (fe:=Ydi) (r:=[some (.sh (optD b))]) (enc:=nD) (fun y=>!decide (some y=b)) nD (l:=S) (fun y _=>by
  simp[Ydh,Yoi]) (fun _ _ _=>by simp[Ydi])
 generalize S.map nD=SS at *
 simp[Ykx,Yv,capR,h,wob]
noncomputable def Ymv(R:List IfR)(S:List Nat)(b:Option Nat)(is:List Int):Bool:=match b with
 | none=>decide (is.length=0)
 | some x=>decide (x∈S)&&derB R S is
theorem Ylj(R:List IfR){S:List Nat}(b:Option Nat){is:List Int}(hl:S.length+is.length≤1000):Ybz [optD b,.tup (is.map D.int),Yx R,.lst (S.map nD)]=some (.bl (Ymv R S b is)):=by
 have hd:=Ygi R (c:=.lst (S.map nD)) (d:=.tup (is.map D.int)) S is rfl rfl hl
 rw[Ybz,Yac (by rfl)]
 have hlen:((is.map D.int).length:Int)=(is.length:Int):=by simp
 unfold Ymv
 cases b with
 | none=>
   have:((is.length:Int)=0)↔is.length=0:=by omega
   simp[Yed,Yv,optD,hlen,this]
 | some x=>
   have hin:=in_n (c:=.lst (S.map nD)) x S false rfl
   generalize hS:D.lst (S.map nD)=SS at *
   generalize Yx R=bk at *
   generalize D.tup (is.map D.int)=ii at *
   by_cases hx:x∈S<;>simp[Yed,Yv,optD,hin,hx,hd]
noncomputable def foB(R:List IfR)(Kp:List Nat)(b:Option Nat)(is:List Int):List Nat:=match b with
 | none=>[]
 | some x=>Kp.filter fun y=>decide (y < x)&&decide (y∈hdsR R is)
theorem Yqg(R:List IfR){S Kp:List Nat}(b:Option Nat){is:List Int}(h:Ymv R S b is=true):Ydj [optD b,.tup (is.map D.int),Yx R,.lst (Kp.map nD)]=some (.lst ((foB R Kp b is).map nD)):=by
 rw[Ydj,Yac (by rfl)]
 unfold foB
 cases b with
 | none=>simp[Yge,Yv,optD]
 | some x=>
   unfold Ymv at h
   rw[Qd]at h
   have hcm:=Ymu h.2 (fe:=Yea) (r:=[some (.sh (Yx R))]) (fun i hi hv=>by
    have hat:=Yqd hv
    simp[Yea,hat])
   have hc2:=Yjc (fc:=Yeb) (fe:=Yec) (r:=[some (.sh (.int (x:Int))),some (.sh (.lst ((hdsR R is).map nD)))]) (enc:=nD) (fun y=>decide (y < x)&&decide (y∈hdsR R is)) nD (l:=Kp) (fun y _=>by
    have hin:=in_n (c:=.lst ((hdsR R is).map nD)) y (hdsR R is) false rfl
    generalize D.lst ((hdsR R is).map nD)=hh at *
    by_cases hy:y < x<;>simp[Yeb,hy,hin]) (fun _ _ _=>by simp[Yec])
   have hsh:optD (some x)=.int (x:Int):=rfl
   rw[hsh]
   generalize Yx R=bk at *
   generalize (hdsR R is).map nD=hh at *
   generalize Kp.map nD=kk at *
   have hit:Yr (.tup (is.map D.int))=some (is.map D.int):=rfl
   generalize hti:D.tup (is.map D.int)=ii at *
   simp[Yge,Yv,hit,capR,hcm,hc2]
noncomputable def Yt8(R:List IfR)(b:Option Nat)(is:List Int)(fs:List Nat):Bool:=decide (0 < is.length)&&(decide (0≤is.getD (is.length - 1) 0∧is.getD (is.length - 1) 0 < R.length)&&(derB R fs is.dropLast&&(kn (rAt R (is.getD (is.length - 1) 0)).1 (fs++hdsR R is.dropLast)&&(decide ((rAt R (is.getD (is.length - 1) 0)).2=none)||decide ((rAt R (is.getD (is.length - 1) 0)).2=b)))))
theorem Yw6{b ks fs:List Nat}(h:∀x,x∈ks↔x∈fs):kn b ks=kn b fs:=by
 unfold kn
 congr 1
 funext x
 rw[decide_eq_decide.mpr (h x)]
theorem Yma(R:List IfR){n:Nat}(hn:n < 64)(hR:∀r∈R,∀x,r.2=some x→x < n)(b:Option Nat){is:List Int}{fs:List Nat}(hfs:∀x∈fs,x < n)(hl:fs.length+is.length≤1000) :
 Yb9 [optD b,.tup (is.map D.int),Yx R,.lst (fs.map nD)]=some (.bl (Yt8 R b is fs)):=by
 rw[Yb9,Yac (by rfl)]
 have hlen:((is.map D.int).length:Int)=(is.length:Int):=by simp
 unfold Yt8
 by_cases h0:0 < is.length
 ·have hne:¬is=[]:=fun z=>by subst z;simp at h0
  have hla:=Yw5 h0
  have hz:¬(is.length:Int)=0:=by omega
  have hcut:=Yyy D.int is
  have hdl:is.dropLast.length≤is.length:=by simp
  have hd:=Ygi R (c:=.lst (fs.map nD)) (d:=.tup (is.dropLast.map D.int)) fs is.dropLast rfl rfl (by omega)
  generalize is.getD (is.length - 1) 0=la at *
  have hp:=Ygr R la
  by_cases hv:0≤la∧la < R.length
  ·have hat:=Yqd hv
   cases hdb:derB R fs is.dropLast with
   | false=>
     rw[hdb]at hd
     rw[decide_eq_true hv]at hp
     generalize Yx R=bk at *
     generalize fs.map nD=FF at *
     generalize is.dropLast.map D.int=dd at *
     generalize is.map D.int=ii at *
     simp[Yb8,Yv,hlen,hne,hla,hp,hcut,hd]
   | true=>
     obtain⟨l,hm,hde⟩:=Yw4 R hn hR (c:=.lst (fs.map nD)) (d:=.tup (is.dropLast.map D.int)) hfs rfl rfl (by omega) hdb
     have hbk:=Yeh (d:=.lst (l.map nD)) (rAt R la) l rfl
     rw[Yw6 hm]at hbk
     rw[hdb]at hd
     rw[decide_eq_true hv]at hp
     have hin:inM false (optD (rAt R la).2) (.tup [.non,optD b])=some (decide ((rAt R la).2=none)||decide ((rAt R la).2=b)):=by
      have q1:=Ys2 false none (rAt R la).2
      have q2:=Ys2 false b (rAt R la).2
      rw[Yg0 (by simp) (by simp)]at q1 q2
      have q1':eqD .non (optD (rAt R la).2)=decide (none=(rAt R la).2):=by simpa [optD]using q1
      have q2':eqD (optD b) (optD (rAt R la).2)=decide (b=(rAt R la).2):=by simpa using q2
      rw[Yzp (l:=[.non,optD b]) rfl (by simp) (by simp)]
      have e1:decide ((rAt R la).2=none)=decide (none=(rAt R la).2):=decide_eq_decide.mpr ⟨Eq.symm,Eq.symm⟩
      have e2:decide ((rAt R la).2=b)=decide (b=(rAt R la).2):=decide_eq_decide.mpr ⟨Eq.symm,Eq.symm⟩
      rw[e1,e2,←q1',←q2']
      simp[inD]
     have hib:(Yr (Yx R))=some [.str "ifs",.tup (R.map ifD)]:=rfl
     have hir:Yr (ifD (rAt R la))=some [.tup ((rAt R la).1.map nD),optD (rAt R la).2]:=rfl
     generalize Yx R=bk at *
     generalize kn (rAt R la).1 (fs++hdsR R is.dropLast)=kk at *
     generalize l.map nD=LL at *
     generalize fs.map nD=FF at *
     generalize is.dropLast.map D.int=dd at *
     generalize is.map D.int=ii at *
     generalize ifD (rAt R la)=rr at *
     cases kk<;>simp[Yb8,Yv,hlen,hne,hla,hp,hcut,hd,hde,hib,hat,hbk,hir,hin,h0,hv.1,hv.2]
  ·rw[decide_eq_false hv]at hp
   generalize Yx R=bk at *
   generalize is.map D.int=ii at *
   simp[Yb8,Yv,hlen,hne,hla,hp,hv]
 ·have hz:is.length=0:=by omega
  have:is=[]:=List.eq_nil_of_length_eq_zero hz
  subst this
  simp[Yb8,Yv]
noncomputable def Yrv(R:List IfR)(Kp S:List Nat)(b:Option Nat)(is js:List Int):Bool:=Ymv R S b is&&Yt8 R b js (wob b S++foB R Kp b is)
theorem Yrw(R:List IfR){n:Nat}(hn:n < 64)(hR:∀r∈R,∀x,r.2=some x→x < n){Kp S:List Nat}(hK:∀x∈Kp,x < n)(hS:∀x∈S,x < n)(hKl:Kp.length≤100)(hSl:S.length≤100)(b:Option Nat){is js:List Int}(hil:is.length≤300)(hjl:js.length≤300) :
 Ycc [.tup [.str "lone",optD b,.tup (is.map D.int),.tup (js.map D.int)],Yx R,.lst (Kp.map nD),.lst (S.map nD)]=some (.bl (Yrv R Kp S b is js)):=by
 have h1:=Ylj R (S:=S) b (is:=is) (by omega)
 have hw:=Yqf S b
 have hwl:(wob b S).length≤100:=Qf (Qm _ _) hSl
 have hfl:(foB R Kp b is).length≤100:=by
  unfold foB
  cases b with
  | none=>simp
  | some x=>exact Qf (Qm _ _) hKl
 have h3:=Yma R hn hR b (is:=js) (fs:=wob b S++foB R Kp b is) (fun x hx=>by
  rcases qu hx with hx | hx
  ·exact hS x (Qb hx).1
  ·unfold foB at hx
   cases b with
   | none=>simp at hx
   | some y=>exact hK x (Qb hx).1) (by simp;omega)
 rw[Ycc,Yac (by rfl)]
 have a2:∀a b c d:D,atI [a,b,c,d] 2=some c:=fun a b c d=>rfl
 have a3:∀a b c d:D,atI [a,b,c,d] 3=some d:=fun a b c d=>rfl
 unfold Yrv
 cases hf:Ymv R S b is with
 | false=>
   rw[hf]at h1
   generalize D.tup (is.map D.int)=ii at *
   generalize D.tup (js.map D.int)=jj at *
   generalize Yx R=bk at *
   generalize S.map nD=SS at *
   generalize Kp.map nD=KK at *
   simp[Yhp,Yv,a2,h1]
 | true=>
   have h2:=Yqg R (Kp:=Kp) b hf
   have hcat:=Yf7 (a:=(wob b S).map nD) (b:=(foB R Kp b is).map nD) (by simp;omega)
   rw[←List.map_append]at hcat
   rw[hf]at h1
   generalize D.tup (is.map D.int)=ii at *
   generalize D.tup (js.map D.int)=jj at *
   generalize Yx R=bk at *
   generalize (wob b S++foB R Kp b is).map nD=WF at *
   generalize (wob b S).map nD=W1 at *
   generalize (foB R Kp b is).map nD=W2 at *
   generalize S.map nD=SS at *
   generalize Kp.map nD=KK at *
   simp[Yhp,Yv,a2,a3,h1,hw,h2,hcat,h3]
end Lw
namespace Lw
open PySem L2 M Bk
theorem Yrx(neg:Bool)(a b:List Nat):eqM neg (.lst (a.map nD)) (.lst (b.map nD))=some (if neg then !decide (a=b)else decide (a=b)):=by
 have h:∀l:List Nat,depL (l.map nD)≤1:=fun l=>y12 (fun x=>by simp) l
 have h1:=h a
 have h2:=h b
 have e:eqD (.lst (a.map nD)) (.lst (b.map nD))=eqL (a.map nD) (b.map nD):=by simp
 rw[Yg0 (by simp;omega) (by simp;omega),e,Ywp y48]
noncomputable def Ymw(l:List Nat):Bool:=decide (l.Pairwise (· < ·))
theorem Yw7:∀{a b:List Nat},a.Pairwise (· < ·)→b.Pairwise (· < ·)→(∀x,x∈a↔x∈b)→a=b
 | [],[],_,_,_=>rfl
 | [],y::b,_,_,h=>absurd ((h y).mpr qg) (by simp)
 | x::a,[],_,_,h=>absurd ((h x).mp qg) (by simp)
 | x::a,y::b,ha,hb,h=>by
   rw[List.pairwise_cons]at ha hb
   have hxy:x=y:=by
    have h1:=(h x).mp qg
    have h2:=(h y).mpr qg
    rcases qr h1 with e | m
    ·exact e
    ·rcases qr h2 with e | m2
     ·exact e.symm
     ·have:=hb.1 x m
      have:=ha.1 y m2
      omega
   subst hxy
   have:a=b:=Yw7 ha.2 hb.2 fun z=>by
    have hz:=h z
    constructor
    ·intro hm
     have:=hz.mp (qf _ hm)
     rcases qr this with e | m
     ·subst e
      exact absurd (ha.1 z hm) (by omega)
     ·exact m
    ·intro hm
     have:=hz.mpr (qf _ hm)
     rcases qr this with e | m
     ·subst e
      exact absurd (hb.1 z hm) (by omega)
     ·exact m
   rw[this]
theorem y2f{l:List Nat}(h:∀x∈l,x < 60)(hl:l.length≤3700):∃l':List Nat,Ytx (l.map nD)=some (l'.map nD)∧decide (l=l')=Ymw l:=by
 obtain⟨l',hpw,hmem,hss⟩:=Yjz (n:=60) (by omega) l h (by omega)
 refine⟨l',hss,?_⟩
 unfold Ymw
 by_cases hp:l.Pairwise (· < ·)
 ·have:=Yw7 hp hpw fun x=>(hmem x).symm
  simp[hp,←this]
 ·have:¬l=l':=fun e=>hp (e ▸ hpw)
  simp[hp,this]
theorem Yry{l:List Nat}(h:∀x∈l,x < 60)(hl:l.length≤3700):Yd7 [.tup (l.map nD)]=some (.bl (Ymw l)):=by
 obtain⟨l',hss,e⟩:=y2f h hl
 have hq:=Yrx false l l'
 simp only[Ql,if_false,e]at hq
 rw[Yd7,Yac (by rfl)]
 generalize l'.map nD=L1 at *
 generalize l.map nD=L0 at *
 simp[Yk1,Yv,hss,hq]
end Lw
namespace Lw
open PySem L2 M Bk
noncomputable abbrev Rrw:=Nat × List Nat
noncomputable def rrwD(r:Rrw):D:=.tup [.int r.1,.tup (r.2.map nD)]
@[simp] theorem Ylk(r:Rrw):Yr (rrwD r)=some [.int r.1,.tup (r.2.map nD)]:=nr rfl
noncomputable def Yqh(l K:List Nat):Bool:=Ymw l&&l.all fun x=>decide (x∈K)
theorem Yii{l:List Nat}(h:∀x∈l,x < 60)(hl:l.length≤3700)(K:List Nat):Ybk [.tup (l.map nD),.lst (K.map nD)]=some (.bl (Yqh l K)):=by
 have hri:=Yry h hl
 have hc:=Yf8 (fe:=Ydn) (r:=[some (.sh (.lst (K.map nD)))]) (enc:=nD) (fun x=>.bl (decide (x∈K))) (l:=l) (fun x _=>by
  have i2:=in_n (c:=.lst (K.map nD)) x K false rfl
  simp only[nD]at i2
  simp[Ydn,i2])
 have hb:blsD (l.map fun x=>D.bl (decide (x∈K)))=some (l.map fun x=>decide (x∈K)):=Yh9 _ _
 have hall:(l.map fun x=>decide (x∈K)).all id=l.all fun x=>decide (x∈K):=by rw[List.all_map];rfl
 rw[Ybk,Yac (by rfl)]
 unfold Yqh
 rw[←hall]
 generalize (l.map fun x=>decide (x∈K))=B1 at *
 generalize (l.map fun x=>D.bl (decide (x∈K)))=B2 at *
 generalize Ymw l=ri at *
 generalize l.map nD=L1 at *
 generalize K.map nD=KK at *
 cases ri with
 | true=>simp[Yfo,Yv,hri,capR,hc,hb]
 | false=>simp[Yfo,Yv,hri]
theorem Yi7(l:List Nat)(x:Nat):Yce [.tup (l.map nD),.int x]=some (.lst ((l.filter fun y=>decide (y < x)).map nD)):=by
 have hc:=Yjc (fc:=Yfq) (fe:=Yfr) (r:=[some (.sh (.int (x:Int)))]) (enc:=nD) (fun y=>decide (y < x)) nD (l:=l) (fun y _=>by
  simp[Yfq]) (fun y _ _=>by simp[Yfr])
 rw[Yce,Yac (by rfl)]
 generalize (l.filter fun y=>decide (y < x)).map nD=L2 at *
 generalize l.map nD=L1 at *
 simp[Ymp,Yv,capR,hc]
noncomputable def rowR(first K:List Nat)(r:Rrw):Bool:=Yqh r.2 K&&decide ((r.2.filter fun y=>decide (y < r.1))=first.filter fun y=>decide (y < r.1))
theorem Yyz{r:Rrw}(h:∀x∈r.2,x < 60)(hl:r.2.length≤3700)(first K:List Nat):Yic [rrwD r,.tup (first.map nD),.lst (K.map nD)]=some (.bl (rowR first K r)):=by
 have hr:=Ylk r
 have h1:=Yii h hl K
 have h2:=Yi7 r.2 r.1
 have h3:=Yi7 first r.1
 have hq:=Yrx false (r.2.filter fun y=>decide (y < r.1)) (first.filter fun y=>decide (y < r.1))
 rw[Yic,Yac (by rfl)]
 unfold rowR
 simp only[Ql,if_false]at hq
 generalize decide ((r.2.filter fun y=>decide (y < r.1))=first.filter fun y=>decide (y < r.1))=dd at *
 generalize (r.2.filter fun y=>decide (y < r.1)).map nD=A1 at *
 generalize (first.filter fun y=>decide (y < r.1)).map nD=A2 at *
 generalize Yqh r.2 K=sb at *
 generalize r.2.map nD=R1 at *
 generalize first.map nD=F1 at *
 generalize K.map nD=KK at *
 generalize rrwD r=rr at *
 cases sb with
 | true=>simp[Ynq,Yv,hr,h1,h2,h3,hq]
 | false=>simp[Ynq,Yv,hr,h1]
noncomputable def litE(n:Nat)(l:List Nat):List Bool:=(List.range n).map fun x=>decide (x∈l)
theorem Yi8{n:Nat}(hn:n≤1000){R:List Rl}(hR:∀r∈R,In .i n r)(l:List Nat):Ybf [Yjh .i R,.lst (l.map nD),.int n]=some (.bl (decide (brk .i (litE n l) R=[]))):=by
 have hg:=Yix (n:=(n:Int)) (by omega) (by omega)
 rw[Yhi]at hg
 have el:((n:Int) - 0).toNat=n:=by omega
 rw[el]at hg
 simp only[Int.zero_add]at hg
 have hc:=Yf8 (fe:=Yb4) (r:=[some (.sh (.lst (l.map nD)))]) (enc:=fun i:Nat=>D.int ((i:Nat):Int)) (fun x=>D.bl (decide (x∈l))) (l:=List.range n) (fun x _=>by
  have i2:=in_n (c:=.lst (l.map nD)) x l false rfl
  simp only[nD]at i2
  simp[Yb4,i2])
 have e1:((List.range n).map fun x=>D.bl (decide (x∈l)))=(litE n l).map D.bl:=by unfold litE;rw[Qj];rfl
 rw[e1]at hc
 have hlen:(litE n l).length=n:=by unfold litE;simp
 have hh:=y2b (ev:=litE n l) (c:=.lst ((litE n l).map D.bl)) rfl (k:=.i) (R:=R) (by rw[hlen];exact hR)
 rw[Ybf,Yac (by rfl)]
 generalize decide (brk .i (litE n l) R=[])=db at *
 generalize (litE n l).map D.bl=EE at *
 generalize Yjh .i R=bk at *
 generalize l.map nD=LL at *
 simp[Ye9,Yv,capR,hg,hc,hh]
end Lw
namespace Lw
open PySem L2 M Bk
theorem Yt9(S:List Nat)(x:Nat):Ybw [.lst (S.map nD),.int x]=some (.tup ((S.filter fun y=>!decide (y=x)).map nD)):=by
 have hc:=Yjc (fc:=Ydh) (fe:=Ydi) (r:=[some (.sh (.int (x:Int)))]) (enc:=nD) (fun y=>!decide (y=x)) nD (l:=S) (fun y _=>by
  simp[Ydh]) (fun y _ _=>by simp[Ydi])
 rw[Ybw,Yac (by rfl)]
 generalize (S.filter fun y=>!decide (y=x)).map nD=L2 at *
 generalize S.map nD=L1 at *
 simp[Ykx,Yv,capR,hc]
noncomputable def lits(first:List Nat)(rows:List Rrw)(S:List Nat):List (List Nat):=(S++first)::rows.map fun r=>(S.filter fun y=>!decide (y=r.1))++r.2
noncomputable def Yy0(first:List Nat)(rows:List Rrw)(R:List Rl)(K S:List Nat)(n:Nat):Bool:=Yqh first K&&decide (rows.map (·.1)=S)&&rows.all (rowR first K)&&(lits first rows S).all fun l=>decide (brk .i (litE n l) R=[])
theorem Yrz{first:List Nat}(hf:∀x∈first,x < 60)(hfl:first.length≤100){rows:List Rrw}(hl:rows.length≤100)(hr:∀r∈rows,r.2.length≤100∧∀y∈r.2,y < 60){n:Nat}(hn:n≤1000){R:List Rl}(hR:∀r∈R,In .i n r)(K:List Nat){S:List Nat}(hS:S.length≤100) :
 Yc3 [.tup (first.map nD),.tup (rows.map rrwD),Yjh .i R,.lst (K.map nD),.lst (S.map nD),.int n]=some (.bl (Yy0 first rows R K S n)):=by
 have hs:=Yii hf (by omega) K
 have h0:=Yf8 (fe:=Yev) (r:=[]) (enc:=rrwD) (fun r=>nD r.1) (l:=rows) (fun r _=>by
  have hi:=Ylk r
  generalize rrwD r=rr at *
  simp[Yev,hi])
 have e0:(rows.map fun r=>nD r.1)=(rows.map (·.1)).map nD:=by rw[Qj];rfl
 rw[e0]at h0
 have hq:=Yrx true (rows.map (·.1)) S
 have h1:=Yf8 (fe:=Yew) (r:=[some (.sh (.tup (first.map nD))),some (.sh (.lst (K.map nD)))]) (enc:=rrwD) (fun r=>.bl (rowR first K r)) (l:=rows) (fun r hm=>by
  have h:=Yyz (hr r hm).2 (by have:=(hr r hm).1;omega) first K
  generalize rrwD r=rr at *
  generalize first.map nD=F1 at *
  generalize K.map nD=KK at *
  simp[Yew,h])
 have hall:blsD (rows.map fun r=>D.bl (rowR first K r))=some (rows.map (rowR first K)):=Yh9 _ rows
 have h2:=Yf8 (fe:=Yex) (r:=[some (.sh (.lst (S.map nD)))]) (enc:=rrwD) (fun r=>.lst (((S.filter fun y=>!decide (y=r.1))++r.2).map nD)) (l:=rows) (fun r hm=>by
  have hi:=Ylk r
  have hw:=Yt9 S r.1
  have hfi:(S.filter fun y=>!decide (y=r.1)).length≤S.length:=Qm _ _
  have hc:=Yf7 (a:=(S.filter fun y=>!decide (y=r.1)).map nD) (b:=r.2.map nD) (by have:=(hr r hm).1;rw[qe,qe];omega)
  rw[←List.map_append]at hc
  have l1:∀l:List D,Yfe [.tup l]=some l:=fun l=>rfl
  generalize ((S.filter fun y=>!decide (y=r.1))++r.2).map nD=C at *
  generalize (S.filter fun y=>!decide (y=r.1)).map nD=S1 at *
  generalize r.2.map nD=R1 at *
  generalize S.map nD=SS at *
  generalize rrwD r=rr at *
  simp[Yex,hi,hw,l1,hc])
 have e2:(rows.map fun r=>D.lst (((S.filter fun y=>!decide (y=r.1))++r.2).map nD))=(rows.map fun r=>(S.filter fun y=>!decide (y=r.1))++r.2).map fun l=>D.lst (l.map nD):=by rw[Qj];rfl
 rw[e2]at h2
 have hcf:=Yf7 (a:=S.map nD) (b:=first.map nD) (by rw[qe,qe];omega)
 rw[←List.map_append]at hcf
 have hcl:=Yf7 (a:=[D.lst ((S++first).map nD)]) (b:=(rows.map fun r=>(S.filter fun y=>!decide (y=r.1))++r.2).map fun l=>D.lst (l.map nD)) (by simp;omega)
 have e3:[D.lst ((S++first).map nD)]++((rows.map fun r=>(S.filter fun y=>!decide (y=r.1))++r.2).map fun l=>D.lst (l.map nD))=(lits first rows S).map fun l=>D.lst (l.map nD):=rfl
 rw[e3]at hcl
 have h3:=Yf8 (fe:=Yey) (r:=[some (.sh (Yjh .i R)),some (.sh (.int (n:Int)))]) (enc:=fun l:List Nat=>D.lst (l.map nD)) (fun l=>.bl (decide (brk .i (litE n l) R=[]))) (l:=lits first rows S) (fun l _=>by
  have h:=Yi8 hn hR l
  generalize Yjh .i R=bk at *
  generalize l.map nD=LL at *
  simp[Yey,h])
 have hall3:blsD ((lits first rows S).map fun l=>D.bl (decide (brk .i (litE n l) R=[])))=some ((lits first rows S).map fun l=>decide (brk .i (litE n l) R=[])):=Yh9 _ _
 have hq3:((lits first rows S).map fun l=>decide (brk .i (litE n l) R=[])).all id=(lits first rows S).all fun l=>decide (brk .i (litE n l) R=[]):=by rw[List.all_map];rfl
 have hlf:Yfe [.tup (first.map nD)]=some (first.map nD):=rfl
 rw[Yc3,Yac (by rfl)]
 unfold Yy0
 rw[←hq3]
 generalize ((lits first rows S).map fun l=>decide (brk .i (litE n l) R=[]))=B3 at *
 generalize ((lits first rows S).map fun l=>D.bl (decide (brk .i (litE n l) R=[])))=D3 at *
 generalize ((lits first rows S).map fun l=>D.lst (l.map nD))=L3 at *
 generalize ((rows.map fun r=>(S.filter fun y=>!decide (y=r.1))++r.2).map fun l=>D.lst (l.map nD))=L2 at *
 generalize (S++first).map nD=SF at *
 generalize Yjh .i R=bk at *
 generalize Yqh first K=sb at *
 generalize (rows.map fun r=>D.bl (rowR first K r))=RB at *
 generalize hrp:rowR first K=rp at *
 generalize rows.map rrwD=RR at *
 generalize first.map nD=F1 at *
 generalize K.map nD=KK at *
 cases sb with
 | false=>simp[Yd8,Yv,hs]
 | true=>
   by_cases hk:rows.map (·.1)=S
   ·simp only[hk,decide_true]at hq
    rw[hk]at h0
    generalize S.map nD=SS at *
    cases ha:rows.all rp with
    | false=>simp[Yd8,Yv,hs,capR,h0,hq,h1,hall,ha,Function.comp_def]
    | true=>simp[Yd8,Yv,hs,capR,h0,hq,h1,hall,ha,Function.comp_def,hk,hlf,hcf,h2,hcl,h3,hall3]
   ·simp only[hk,decide_false]at hq
    generalize (rows.map (·.1)).map nD=R1 at *
    generalize S.map nD=SS at *
    simp[Yd8,Yv,hs,capR,h0,hq,hk]
end Lw
namespace Lw
open PySem L2 M Bk
end Lw
namespace Lw
open PySem L2 M Bk
def Hl(A:List Nat)(r:IfR):Prop:=(∀x∈r.1,x∈A)→∃y,r.2=some y∧y∈A
theorem Yqi{A b fs:List Nat}(h:kn b fs=true)(hf:∀x∈fs,x∈A):∀x∈b,x∈A:=fun x hx=>by
 unfold kn at h
 exact hf x (of_decide_eq_true (List.all_eq_true.mp h x hx))
theorem Yll{R:List IfR}{i:Int}(h:0≤i∧i < R.length):rAt R i∈R:=by
 unfold rAt
 have hi:i.toNat < R.length:=by omega
 rw[Qn,qp hi]
 exact qx hi
theorem Yr0{R:List IfR}{r:IfR}(h:r∈R):∃i:Nat,i < R.length∧rAt R (i:Int)=r:=by
 obtain⟨i,hi,e⟩:=List.mem_iff_getElem.mp h
 refine⟨i,hi,?_⟩
 unfold rAt
 rw[Int.toNat_natCast,Qn,qp hi,e]
 rfl
theorem Yoj{A:List Nat}{R:List IfR}(hR:∀r∈R,Hl A r):∀{is:List Int} {fs:List Nat},derB R fs is=true→(∀x∈fs,x∈A)→∀x∈fs++hdsR R is,x∈A
 | [],fs,_,hf,x,hx=>by
   rcases qu hx with h | h
   ·exact hf x h
   ·cases h
 | i::is,fs,hd,hf,x,hx=>by
   have hd':(stp R fs i&&derB R (fs++[hdN (rAt R i)]) is)=true:=hd
   rw[Qd]at hd'
   obtain⟨h1,h2⟩:=hd'
   unfold stp at h1
   rw[Qd,Qd,decide_eq_true_eq]at h1
   obtain⟨p1,p2,p3⟩:=h1
   obtain⟨y,e,hy⟩:=hR _ (Yll p1) (Yqi p3 hf)
   have hh:hdN (rAt R i)=y:=by unfold hdN;rw[e];rfl
   have hf2:∀z∈fs++[hdN (rAt R i)],z∈A:=fun z hz=>by
    rcases qu hz with h | h
    ·exact hf z h
    ·rw[Qk]at h
     rw[h,hh]
     exact hy
   refine Yoj hR h2 hf2 x ?_
   have e2:hdsR R (i::is)=hdN (rAt R i)::hdsR R is:=rfl
   rw[e2]at hx
   rw[List.append_assoc]
   exact hx
structure GoodI(R:List IfR)(K S:List Nat)(first:List Nat)(rows:List Rrw):Prop where
 fK:first.Pairwise (· < ·)∧∀y∈first,y∈K
 rs:rows.map (·.1)=S
 rK:∀r∈rows,r.2.Pairwise (· < ·)∧(∀y∈r.2,y∈K)∧(r.2.filter fun y=>decide (y < r.1))=first.filter fun y=>decide (y < r.1)
 h0:∀q∈R,Hl (S++first) q
 hb:∀r∈rows,∀q∈R,Hl ((S.filter fun y=>!decide (y=r.1))++r.2) q
theorem never{R R':List IfR}{K S:List Nat}{first:List Nat}{rows:List Rrw}(g:GoodI R K S first rows)(hRR:∀A,(∀q∈R,Hl A q)→∀q∈R',Hl A q)(hSK:∀x∈S,x∉K){b:Option Nat}{is js:List Int}(h:Yrv R' K S b is js=true):False:=by
 unfold Yrv at h
 rw[Qd]at h
 obtain⟨h1,h2⟩:=h
 have h0:=hRR _ g.h0
 unfold Yt8 at h2
 simp only[Qd,decide_eq_true_eq,Bool.or_eq_true]at h2
 obtain⟨_,p1,p2,p3,p4⟩:=h2
 cases b with
 | none=>
   have hfs:∀x∈wob none S++foB R' K none is,x∈S++first:=fun x hx=>by
    rcases qu hx with q | q
    ·exact List.mem_append.mpr (.inl (Qb q).1)
    ·cases q
   obtain⟨y,e,hy⟩:=h0 _ (Yll p1) (Yqi p3 (Yoj h0 p2 hfs))
   rcases p4 with q | q
   ·rw[q]at e
    cases e
   ·rw[q]at e
    cases e
 | some x=>
   have h1':(decide (x∈S)&&derB R' S is)=true:=h1
   rw[Qd,decide_eq_true_eq]at h1'
   obtain⟨hxS,hder⟩:=h1'
   have hlit:=Yoj h0 hder (fun y hy=>List.mem_append.mpr (.inl hy))
   have hx':=hxS
   rw[←g.rs]at hx'
   obtain⟨r,hr,e⟩:=qw hx'
   subst e
   obtain⟨_,rk,re⟩:=g.rK r hr
   have hb:=hRR _ (g.hb r hr)
   have hfs:∀z∈wob (some r.1) S++foB R' K (some r.1) is,z∈(S.filter fun y=>!decide (y=r.1))++r.2:=fun z hz=>by
    rcases qu hz with q | q
    ·obtain⟨q1,q2⟩:=Qb q
     refine List.mem_append.mpr (.inl (List.mem_filter.mpr ⟨q1,?_⟩))
     simpa using q2
    ·have q':z∈K.filter fun y=>decide (y < r.1)&&decide (y∈hdsR R' is):=q
     obtain⟨q1,q2⟩:=Qb q'
     rw[Qd,decide_eq_true_eq,decide_eq_true_eq]at q2
     have hz1:z∈first:=by
      rcases qu (hlit z (List.mem_append.mpr (.inr q2.2)))with w | w
      ·exact absurd q1 (hSK z w)
      ·exact w
     have hz2:z∈first.filter fun y=>decide (y < r.1):=List.mem_filter.mpr ⟨hz1,decide_eq_true q2.1⟩
     rw[←re]at hz2
     exact List.mem_append.mpr (.inr (Qb hz2).1)
   obtain⟨y,e,hy⟩:=hb _ (Yll p1) (Yqi p3 (Yoj hb p2 hfs))
   rcases p4 with q | q
   ·rw[q]at e
    cases e
   ·rw[q]at e
    cases e
    rcases qu hy with w | w
    ·have:=(Qb w).2
     simp at this
    ·exact hSK _ hxS (rk _ w)
noncomputable abbrev ci(js:List Nat):List Int:=js.map fun i:Nat=>(i:Int)
theorem Yy1{R:List IfR}:∀{js fs:List Nat},Der R fs js→derB R fs (ci js)=true
 | [],_,_=>rfl
 | i::js,fs,h=>by
   obtain⟨⟨h1,⟨x,hx⟩,h3⟩,h4⟩:=h
   show(stp R fs (i:Int)&&derB R (fs++[hdN (rAt R (i:Int))]) (ci js))=true
   rw[Qd]
   refine⟨?_,Yy1 h4⟩
   unfold stp
   rw[hx,h3,decide_eq_true (show 0≤(i:Int)∧(i:Int) < (R.length:Int) by omega)]
   rfl
theorem Yzs(R:List IfR)(js:List Nat):hdsR R (ci js)=js.map fun i:Nat=>hdN (rAt R i):=by
 unfold hdsR
 rw[Qj]
 rfl
theorem Yqj{R:List IfR}:∀{p:List Int} {fs:List Nat} {i:Int} {q:List Int},derB R fs (p++i::q)=true→derB R fs p=true∧stp R (fs++hdsR R p) i=true
 | [],fs,i,q,h=>by
   have h':(stp R fs i&&derB R (fs++[hdN (rAt R i)]) q)=true:=h
   rw[Qd]at h'
   refine⟨rfl,?_⟩
   have:fs++hdsR R []=fs:=List.append_nil _
   rw[this]
   exact h'.1
 | a::p,fs,i,q,h=>by
   have h':(stp R fs a&&derB R (fs++[hdN (rAt R a)]) (p++i::q))=true:=h
   rw[Qd]at h'
   obtain⟨g1,g2⟩:=Yqj h'.2
   refine⟨?_,?_⟩
   ·show(stp R fs a&&derB R (fs++[hdN (rAt R a)]) p)=true
    rw[h'.1,g1]
    rfl
   ·have e:fs++hdsR R (a::p)=(fs++[hdN (rAt R a)])++hdsR R p:=by rw[List.append_assoc];rfl
    rw[e]
    exact g2
theorem Yw8{R:List IfR}{b:Option Nat}{p:List Nat}{i:Nat}{fs:List Nat}(h1:derB R fs (ci p)=true)(h2:i < R.length)(h3:kn (rAt R (i:Int)).1 (fs++hdsR R (ci p))=true)(h4:(rAt R (i:Int)).2=none∨(rAt R (i:Int)).2=b):Yt8 R b (ci (p++[i])) fs=true:=by
 have e:ci (p++[i])=ci p++[(i:Int)]:=by
  show(p++[i]).map _=_
  rw[List.map_append]
  rfl
 have hg:(ci p++[(i:Int)]).getD (ci p).length 0=(i:Int):=by simp[Qn]
 unfold Yt8
 rw[e,List.dropLast_concat,qy,List.length_singleton,Nat.add_sub_cancel,hg]
 simp only[Qd,Bool.or_eq_true,decide_eq_true_eq]
 exact⟨by omega,⟨by omega,by omega⟩,h1,h3,h4⟩
theorem Ys3{R:List IfR}{fs l js fs2 l2 js2:List Nat}(h:Full R fs l js)(h2:Full R fs2 l2 js2)(hs:∀x∈fs2,x∈l):∀x∈l2,x∈l:=by
 have hc:∀r∈R,r.2≠none→Hl l r:=fun r hr hn hb=>by
  obtain⟨i,hi,rfl⟩:=Yr0 hr
  cases e:(rAt R (i:Int)).2 with
  | none=>exact absurd e hn
  | some y=>
    refine⟨y,rfl,h.none i hi y e ?_⟩
    unfold kn
    exact List.all_eq_true.mpr fun x hx=>decide_eq_true (hb x hx)
 have key:∀(is ks:List Nat),Der R ks is→(∀x∈ks,x∈l)→∀x∈ks++is.map fun i:Nat=>hdN (rAt R i),x∈l:=fun is=>by
  induction is with
  | nil=>exact fun ks _ hk x hx=>hk x (by simpa using hx)
  | cons i is ih=>
    intro ks hd hk x hx
    obtain⟨⟨g1,⟨y,hy⟩,g3⟩,g4⟩:=hd
    obtain⟨z,hz,hzl⟩:=hc _ (Yll ⟨by omega,by omega⟩) (by rw[hy];simp) (Yqi g3 hk)
    have hh:hdN (rAt R (i:Int))=z:=by unfold hdN;rw[hz];rfl
    refine ih (ks++[hdN (rAt R (i:Int))]) g4 (fun w hw=>?_) x (by rw[List.append_assoc];exact hx)
    rcases qu hw with hw | hw
    ·exact hk w hw
    ·rw[Qk]at hw
     rw[hw,hh]
     exact hzl
 intro x hx
 exact key js2 fs2 h2.der hs x ((h2.mem x).mp hx)
theorem Ymx{R:List IfR}{fs l js:List Nat}(h:Full R fs l js)(hn:∀r∈R,r.2=none→kn r.1 l=false){A:List Nat}(hA:∀x,x∈A↔x∈l):∀q∈R,Hl A q:=fun q hq hb=>by
 have hk:kn q.1 l=true:=by
  unfold kn
  exact List.all_eq_true.mpr fun x hx=>decide_eq_true ((hA x).mp (hb x hx))
 cases e:q.2 with
 | none=>
   rw[hn q hq e]at hk
   cases hk
 | some y=>
   obtain⟨i,hi,rfl⟩:=Yr0 hq
   exact⟨y,rfl,(hA y).mpr (h.none i hi y e hk)⟩
theorem Ys4{gt:D→Ro→Option Ro}{fb:Ro→Option Out}{α:Type}(enc:α→D)(I:List α→Ro→Prop)(O:D→Prop):∀(l pre:List α) (ρ:Ro),I pre ρ→
 (∀q a r ρ,pre++l=q++a::r→I q ρ→∃ρ1,gt (enc a) ρ=some ρ1∧((∃ρ2,fb ρ1=some (.nx ρ2)∧I (q++[a]) ρ2)∨∃d,fb ρ1=some (.rt d)∧O d))→
 (∃ρ',M.forM gt fb (l.map enc) ρ=some (.nx ρ')∧I (pre++l) ρ')∨∃d,M.forM gt fb (l.map enc) ρ=some (.rt d)∧O d
 | [],pre,ρ,h0,_=>.inl ⟨ρ,rfl,by rw[List.append_nil];exact h0⟩
 | a::l,pre,ρ,h0,hs=>by
   obtain⟨ρ1,e1,h⟩:=hs pre a l ρ rfl h0
   rw[Qc,M.forM,e1,qc]
   rcases h with⟨ρ2,e2,h2⟩ | ⟨d,e2,h2⟩
   ·rw[e2,qc]
    have:=Ys4 enc I O l (pre++[a]) ρ2 h2 fun q b r ρ e=>hs q b r ρ (by rw[←e];simp)
    rw[List.append_assoc]at this
    exact this
   ·rw[e2,qc]
    exact .inr ⟨d,rfl,h2⟩
end Lw
namespace Lw
open PySem L2 M Bk
theorem Yij(r:IfR):Yr (ifD r)=some [.tup (r.1.map nD),optD r.2]:=rfl
noncomputable def fuD(l js:List Nat):D:=.tup [.lst (l.map nD),.tup (js.map nD)]
theorem Yj0(l js:List Nat):Yr (fuD l js)=some [.lst (l.map nD),.tup (js.map nD)]:=rfl
noncomputable def Yok(R:List IfR)(l:List Nat)(i:Nat):Bool:=(rAt R (i:Int)).2.isNone&&kn (rAt R (i:Int)).1 l
theorem Yjs(R:List IfR){l js:List Nat}(hjl:js.length≤1000) :
 (∃i,i < R.length∧Yok R l i=true∧Ya4 [Yx R,fuD l js]=some (.tup ((js++[i]).map nD)))∨((∀i,i < R.length→Yok R l i=false)∧Ya4 [Yx R,fuD l js]=some .non):=by
 rw[Ya4,Yac (by rfl)]
 have hst:Yv 4 [Yx R,fuD l js]=[some (.sh (Yx R)),some (.sh (fuD l js)),none,none]:=rfl
 rw[hst]
 have h:=Yli (gt:=Yj9 2 3) (fb:=Ya1) (fun i:Nat=>D.tup [.int (i:Int),ifD (rAt R i)]) (Yok R l) (fun i:Nat=>D.tup ((js++[i]).map nD)) (fun ρ=>∃y z,ρ=[some (.sh (Yx R)),some (.sh (fuD l js)),y,z]) (List.range R.length)
  [some (.sh (Yx R)),some (.sh (fuD l js)),none,none] ⟨none,none,rfl⟩ (by
   rintro i hi ρ ⟨y,z,rfl⟩
   refine⟨[some (.sh (Yx R)),some (.sh (fuD l js)),some (.sh (.int (i:Int))),some (.sh (ifD (rAt R i)))],rfl,?_⟩
   have hs:=Yeh (d:=.lst (l.map nD)) (rAt R (i:Int)) l rfl
   have hfu:=Yj0 l js
   have hit:=Yij (rAt R (i:Int))
   have hcat:Ypk (.tup (js.map nD)) (.tup [.int (i:Int)])=some (.tup ((js++[i]).map nD)):=by
    rw[List.map_append]
    exact if_pos (by simp;omega)
   unfold Yok
   cases hh:(rAt R (i:Int)).2 with
   | some x=>
     left
     refine⟨rfl,[some (.sh (Yx R)),some (.sh (fuD l js)),some (.sh (.int (i:Int))),some (.sh (ifD (rAt R i)))],?_,_,_,rfl⟩
     rw[hh]at hit
     simp only[optD]at hit
     generalize ifD (rAt R (i:Int))=rr at *
     generalize fuD l js=ff at *
     simp[Ya1,hit,isN,Ylp]
   | none=>
     rw[hh]at hit
     simp only[optD]at hit
     cases hkn:kn (rAt R (i:Int)).1 l with
     | false=>
       left
       rw[hkn]at hs
       refine⟨rfl,[some (.sh (Yx R)),some (.sh (fuD l js)),some (.sh (.int (i:Int))),some (.sh (ifD (rAt R i)))],?_,_,_,rfl⟩
       generalize ifD (rAt R (i:Int))=rr at *
       generalize fuD l js=ff at *
       generalize l.map nD=LL at *
       simp[Ya1,hit,hfu,hs]
     | true=>
       right
       rw[hkn]at hs
       refine⟨rfl,?_⟩
       generalize ifD (rAt R (i:Int))=rr at *
       generalize fuD l js=ff at *
       generalize l.map nD=LL at *
       generalize (js++[i]).map nD=J2 at *
       generalize js.map nD=JJ at *
       simp[Ya1,hit,hfu,hs,hcat])
 rw[Yfy]
 rcases h with⟨i,h1,h2⟩ | ⟨h1,ρ',h2,h3⟩
 ·left
  have hm:=List.mem_of_find?_eq_some h1
  have hp:=List.find?_some h1
  refine⟨i,Qa hm,hp,?_⟩
  generalize fuD l js=ff at *
  simp only[Ynl,Ywj,y43,y1v]
  simp[Ylq,Yoh,h2]
 ·right
  refine⟨fun i hi=>?_,?_⟩
  ·rw[List.find?_eq_none]at h1
   cases hz:Yok R l i with
   | false=>rfl
   | true=>exact absurd hz (h1 i (List.mem_range.mpr hi))
  ·generalize fuD l js=ff at *
   simp[Ylq,Yoh,h2]
theorem Ys5(x:Nat):∀l:List Nat,(l.map fun y:Nat=>(y:Int)).idxOf (x:Int)=l.idxOf x
 | []=>rfl
 | y::l=>by
   rw[Qc,List.idxOf_cons,List.idxOf_cons,Ys5 x l]
   by_cases h:y=x
   ·subst h
    simp
   ·have h':¬(y:Int)=(x:Int):=by omega
    have e1:((y:Int)==(x:Int))=false:=by simpa using h'
    have e2:(y==x)=false:=by simpa using h
    rw[e1,e2]
theorem Ys6{f:Nat→Nat}{x:Nat}:∀{js:List Nat},x∈js.map f→∃p i q,js=p++i::q∧f i=x∧js.take ((js.map f).idxOf x+1)=p++[i]
 | [],h=>(nomatch h)
 | j::js,h=>by
   by_cases e:f j=x
   ·refine⟨[],j,js,rfl,e,?_⟩
    rw[Qc,List.idxOf_cons]
    have:(f j==x)=true:=by simpa using e
    rw[this]
    rfl
   ·have h':x∈js.map f:=by
     rcases qr h with z | z
     ·exact absurd z.symm e
     ·exact z
    obtain⟨p,i,q,h1,h2,h3⟩:=Ys6 h'
    refine⟨j::p,i,q,by rw[h1];rfl,h2,?_⟩
    rw[Qc,List.idxOf_cons]
    have:(f j==x)=false:=by simpa using e
    rw[this]
    show(j::js).take ((js.map f).idxOf x+1+1)=_
    rw[List.take_succ_cons,h3]
    rfl
theorem y5h{α:Type}(f:α→D)(l:List α)(k:Nat):cutD (l.map f) none (some (k:Int))=(l.take k).map f:=by
 have hsx:HT.sIx (l.map f).length (l.map f).length (some (k:Int))=min k l.length:=by
  have:=HT.sIx_nat (l.map f).length (l.map f).length k
  simpa using this
 unfold cutD
 rw[hsx,HT.sIx_none]
 simp[List.map_take]
theorem Der.mem{R:List IfR}:∀{is ks:List Nat},Der R ks is→∀i∈is,i < R.length∧optD (rAt R (i:Int)).2=nD (hdN (rAt R (i:Int)))
 | [],_,_,i,hi=>(nomatch hi)
 | j::is,ks,h,i,hi=>by
   rcases qr hi with rfl | hi
   ·obtain⟨⟨h1,⟨x,hx⟩,_⟩,_⟩:=h
    refine⟨h1,?_⟩
    unfold hdN
    rw[hx]
    rfl
   ·exact Der.mem h.2 i hi
theorem Yik{R:List IfR}{fs l js:List Nat}(h:Full R fs l js)(x:Nat) :
 (∃(p:List Nat) (i:Nat) (q:List Nat),js=p++i::q∧hdN (rAt R (i:Int))=x∧Yap [Yx R,fuD l js,.int (x:Int)]=some (.tup ((p++[i]).map nD)))∨(x∉js.map (fun i:Nat=>hdN (rAt R (i:Int)))∧Yap [Yx R,fuD l js,.int (x:Int)]=some .non):=by
 have hc:=Yf8 (fe:=Yby) (r:=[some (.sh (Yx R))]) (enc:=nD) (fun i:Nat=>nD (hdN (rAt R (i:Int)))) (l:=js) (fun i hi=>by
  obtain⟨g1,g2⟩:=h.der.mem i hi
  have hat:=Yqd (R:=R) (i:=(i:Int)) ⟨by omega,by omega⟩
  have hit:=Yij (rAt R (i:Int))
  have hbi:=Yfu R
  generalize ifD (rAt R (i:Int))=rr at *
  generalize R.map ifD=RR at *
  generalize Yx R=bk at *
  simp[Yby,hbi,hat,hit,g2])
 have e1:(js.map fun i:Nat=>nD (hdN (rAt R (i:Int))))=(js.map fun i:Nat=>hdN (rAt R (i:Int))).map nD:=by rw[Qj];rfl
 rw[e1]at hc
 have hfu:=Yj0 l js
 have hin:=in_n (c:=.lst ((js.map fun i:Nat=>hdN (rAt R (i:Int))).map nD)) x (js.map fun i:Nat=>hdN (rAt R (i:Int))) true rfl
 by_cases hx:x∈js.map fun i:Nat=>hdN (rAt R (i:Int))
 ·obtain⟨p,i,q,h1,h2,h3⟩:=Ys6 hx
  refine .inl ⟨p,i,q,h1,h2,?_⟩
  have hid:idxD (.lst ((js.map fun i:Nat=>hdN (rAt R (i:Int))).map nD)) (.int (x:Int))=some (.int ((js.map fun i:Nat=>hdN (rAt R (i:Int))).idxOf x:Nat)):=by
   have e:∀L:List Nat,L.map nD=(L.map fun y:Nat=>(y:Int)).map D.int:=fun L=>by rw[Qj];rfl
   rw[e,Yyt,if_pos (List.mem_map_of_mem (f:=fun y:Nat=>(y:Int)) hx),Ys5]
  have hcut:=y5h nD js ((js.map fun i:Nat=>hdN (rAt R (i:Int))).idxOf x+1)
  rw[h3]at hcut
  have hca:(((js.map fun i:Nat=>hdN (rAt R (i:Int))).idxOf x+1:Nat):Int)=((js.map fun i:Nat=>hdN (rAt R (i:Int))).idxOf x:Int)+1:=by omega
  rw[hca]at hcut
  simp only[hx,decide_true,if_true,Bool.not_true]at hin
  rw[Yap,Yac (by rfl)]
  clear h1 h2 h3 hca
  generalize (js.map fun i:Nat=>hdN (rAt R (i:Int))).idxOf x=ix at *
  generalize (js.map fun i:Nat=>hdN (rAt R (i:Int))).map nD=HH at *
  generalize (p++[i]).map nD=PP at *
  generalize l.map nD=LL at *
  generalize js.map nD=JJ at *
  generalize fuD l js=ff at *
  generalize Yx R=bk at *
  simp[Yco,Yv,hfu,capR,hc,hin,hid,hcut]
 ·refine .inr ⟨hx,?_⟩
  simp only[hx,decide_false,if_true,Bool.not_false]at hin
  rw[Yap,Yac (by rfl)]
  generalize (js.map fun i:Nat=>hdN (rAt R (i:Int))).map nD=HH at *
  generalize l.map nD=LL at *
  generalize js.map nD=JJ at *
  generalize fuD l js=ff at *
  generalize Yx R=bk at *
  simp[Yco,Yv,hfu,capR,hc,hin]
noncomputable def soL(K l:List Nat):List Nat:=K.filter fun y=>decide (y∈l)
theorem Yqk(K l:List Nat):Yfa [.lst (K.map nD),.lst (l.map nD)]=some (.tup ((soL K l).map nD)):=by
 have hc:=Yjc (fc:=Ygc) (fe:=Ygd) (r:=[some (.sh (.lst (l.map nD)))]) (enc:=nD) (fun y=>decide (y∈l)) nD (l:=K) (fun y _=>by
  have hin:=in_n (c:=.lst (l.map nD)) y l false rfl
  generalize l.map nD=LL at *
  simp[Ygc,hin]) (fun y _ _=>by simp[Ygd])
 rw[Yfa,Yac (by rfl)]
 unfold soL
 generalize (K.filter fun y=>decide (y∈l)).map nD=FF at *
 generalize K.map nD=KK at *
 generalize l.map nD=LL at *
 simp[Yps,Yv,capR,hc]
noncomputable def faB(x:Nat)(S first:List Nat):List Nat:=wob (some x) S++first.filter fun y=>decide (y < x)
theorem Ymb{x:Nat}{S first:List Nat}(hS:S.length≤100)(hf:first.length≤100):Yb7 [.int (x:Int),.lst (S.map nD),.tup (first.map nD)]=some (.lst ((faB x S first).map nD)):=by
 have h1:=Yqf S (some x)
 have h2:=Yi7 first x
 have hs:optD (some x)=.int (x:Int):=rfl
 rw[hs]at h1
 have hwl:(wob (some x) S).length≤100:=Qf (Qm _ _) hS
 have hfl:(first.filter fun y=>decide (y < x)).length≤100:=Qf (Qm _ _) hf
 have hcat:catD (.lst ((wob (some x) S).map nD)) (.lst ((first.filter fun y=>decide (y < x)).map nD))=some ((faB x S first).map nD):=by
  unfold faB
  rw[Yf7 (by simp;omega),List.map_append]
 have hlf:∀l:List D,Yfe [.tup l]=some l:=fun _=>rfl
 rw[Yb7,Yac (by rfl)]
 generalize (faB x S first).map nD=FB at *
 generalize (wob (some x) S).map nD=W1 at *
 generalize (first.filter fun y=>decide (y < x)).map nD=F1 at *
 generalize S.map nD=SS at *
 generalize first.map nD=FF at *
 simp[Yg5,Yv,h1,h2,hlf,hcat]
end Lw
namespace Lw
open PySem L2 M Bk
theorem Yql{hs:List Bool}{st:Nat}{b:Bool}{x:Nat}(h:x∈ofH hs st b):x < hs.length:=Qa (Qb h).1
theorem y2g{hs:List Bool}{st x:Nat}(h1:st≤x)(h2:x < hs.length):x∈ofH hs st false∨x∈ofH hs st true:=by
 have hm:∀b,hs.getD x false=b→x∈ofH hs st b:=fun b hb=>by
  unfold ofH
  rw[List.mem_filter,List.mem_range]
  exact⟨h2,by simp[h1,←hb]⟩
 cases hb:hs.getD x false with
 | false=>exact .inl (hm _ hb)
 | true=>exact .inr (hm _ hb)
theorem Yol{hs:List Bool}{st:Nat}:∀x∈ofH hs st false,x∉ofH hs st true:=fun x h1 h2=>by
 unfold ofH at h1 h2
 have g1:=(Qb h1).2
 have g2:=(Qb h2).2
 simp at g1 g2
 have e1:=g1.2
 have e2:=g2.2
 rw[e1]at e2
 cases e2
def InF(R:List IfR)(st n:Nat):Prop:=∀r∈R,r.1.Pairwise (· < ·)∧(∀x∈r.1,st≤x∧x < n)∧∀x,r.2=some x→st≤x∧x < n
noncomputable def outD(storm:Bool)(pp:D):D:=.tup [.str (if storm=true then Str.ofString "storm" else Str.ofString "keeper"),pp]
noncomputable def loD(b:Option Nat)(is js:List Int):List D:=[.str "lone",optD b,.tup (is.map D.int),.tup (js.map D.int)]
noncomputable def roD(first:List Nat)(rows:List Rrw):List D:=[.str "rows",.tup (first.map nD),.tup (rows.map rrwD)]
theorem n_ci(l:List Nat):l.map nD=(ci l).map D.int:=by rw[Qj];rfl
def Yua(R:List IfR)(K S:List Nat)(b:Option Nat)(is js:List Int):Prop:=Yrv R K S b is js=true∧is.length≤100∧js.length≤100
theorem y2h{R:List IfR}{st n:Nat}(hR:InF R st n){fs l js:List Nat}(h:Full R fs l js){x:Nat}(hx:x∈l):x∈fs∨(st≤x∧x < n):=by
 rcases qu ((h.mem x).mp hx)with w | w
 ·exact .inl w
 ·obtain⟨i,hi,rfl⟩:=qw w
  obtain⟨g1,g2⟩:=h.der.mem i hi
  have hm:=Yll (R:=R) (i:=(i:Int)) ⟨by omega,by omega⟩
  cases e:(rAt R (i:Int)).2 with
  | none=>rw[e]at g2;cases g2
  | some y=>
    have:hdN (rAt R (i:Int))=y:=by unfold hdN;rw[e];rfl
    rw[this]
    exact .inr ((hR _ hm).2.2 y e)
theorem Ygj{R:List IfR}{fs l js:List Nat}(h:Full R fs l js){x:Nat}(hx:x∈fs):x∈l:=(h.mem x).mpr (List.mem_append.mpr (.inl hx))
theorem Yw9{R:List IfR}{K S l js:List Nat}(h:Full R S l js){i:Nat}(hi:i < R.length)(hp:Yok R l i=true):Yua R K S none [] (ci (js++[i])):=by
 unfold Yok at hp
 rw[Qd,Option.isNone_iff_eq_none]at hp
 refine⟨?_,by simp,by have:=h.len;simp;omega⟩
 unfold Yrv
 rw[Qd]
 refine⟨rfl,?_⟩
 have hw:wob none S=S:=List.filter_eq_self.mpr fun y _=>by simp
 have hf:wob none S++foB R K none []=S:=by rw[hw];exact List.append_nil _
 rw[hf]
 refine Yw8 (Yy1 h.der) hi ?_ (.inl hp.1)
 rw[Yzs,←hp.2]
 exact(Yw6 fun x=>(h.mem x)).symm
theorem y63{R:List IfR}{K S l js:List Nat}(h:Full R S l js)(hSK:∀x∈S,x∉K)(x:Nat):faB x S (soL K l)=wob (some x) S++foB R K (some x) (ci js):=by
 unfold faB soL
 congr 1
 show(K.filter fun y=>decide (y∈l)).filter (fun y=>decide (y < x))=K.filter fun y=>decide (y < x)&&decide (y∈hdsR R (ci js))
 rw[List.filter_filter]
 refine List.filter_congr fun y hy=>?_
 congr 1
 rw[Yzs]
 refine decide_eq_decide.mpr ⟨fun w=>?_,fun w=>(h.mem y).mpr (List.mem_append.mpr (.inr w))⟩
 rcases qu ((h.mem y).mp w)with z | z
 ·exact absurd hy (hSK y z)
 ·exact z
theorem Yxa{R:List IfR}{K S l js lx:List Nat}{x i:Nat}{p q:List Nat}(h:Full R S l js)(hSK:∀x∈S,x∉K)(hxS:x∈S)(hx:Full R (faB x S (soL K l)) lx (p++i::q))(he:hdN (rAt R (i:Int))=x):Yua R K S (some x) (ci js) (ci (p++[i])):=by
 have hlen:=hx.len
 have hlj:=h.len
 refine⟨?_,by simp;omega,by simp at hlen ⊢;omega⟩
 unfold Yrv
 rw[Qd]
 refine⟨?_,?_⟩
 ·show(decide (x∈S)&&derB R S (ci js))=true
  rw[Yy1 h.der,decide_eq_true hxS]
  rfl
 ·rw[←y63 h hSK x]
  have hd:=Yy1 hx.der
  have e:ci (p++i::q)=ci p++(i:Int)::ci q:=by
   show(p++i::q).map _=_
   rw[List.map_append]
   rfl
  rw[e]at hd
  obtain⟨g1,g2⟩:=Yqj hd
  unfold stp at g2
  rw[Qd,Qd,decide_eq_true_eq]at g2
  obtain⟨q1,q2,q3⟩:=g2
  refine Yw8 g1 (by omega) q3 (.inr ?_)
  obtain⟨y,hy⟩:=Option.isSome_iff_exists.mp q2
  have:hdN (rAt R (i:Int))=y:=by unfold hdN;rw[hy];rfl
  rw[hy,←this,he]
def RowI(R:List IfR)(K S l0:List Nat)(r:Rrw):Prop:=∃lx jx:List Nat,Full R (faB r.1 S (soL K l0)) lx jx∧r.1∉jx.map (fun i:Nat=>hdN (rAt R (i:Int)))∧r.2=soL K lx
theorem Yxb{R:List IfR}{st n:Nat}(hR:InF R st n){K S l js:List Nat}(hK:K.Pairwise (· < ·))(hSK:∀x∈S,x∉K)(hall:∀x,st≤x→x < n→x∈S∨x∈K)(h:Full R S l js)(hn:∀i,i < R.length→Yok R l i=false){rows:List Rrw}(hrs:rows.map (·.1)=S)(hr:∀r∈rows,RowI R K S l r):GoodI R K S (soL K l) rows:=by
 have hl:∀x∈l,x∈S∨x∈K:=fun x hx=>by
  rcases y2h hR h hx with w | w
  ·exact .inl w
  ·exact hall x w.1 w.2
 have hno:∀r∈R,r.2=none→kn r.1 l=false:=fun r hr e=>by
  obtain⟨i,hi,rfl⟩:=Yr0 hr
  have:=hn i hi
  unfold Yok at this
  rw[e]at this
  exact this
 refine⟨⟨hK.filter _,fun y hy=>(Qb hy).1⟩,hrs,fun r hm=>?_,?_,fun r hm=>?_⟩
 ·obtain⟨lx,jx,hx,hxn,e⟩:=hr r hm
  have hsub:=Ys3 h hx fun y hy=>by
   rcases qu hy with w | w
   ·exact Ygj h (Qb w).1
   ·exact of_decide_eq_true (Qb (Qb w).1).2
  refine⟨by rw[e];exact hK.filter _,fun y hy=>by rw[e]at hy;exact(Qb hy).1,?_⟩
  rw[e]
  unfold soL
  rw[List.filter_filter,List.filter_filter]
  refine List.filter_congr fun y hy=>?_
  by_cases hyx:y < r.1
  ·have:(y∈lx)↔(y∈l):=⟨hsub y,fun w=>Ygj hx (List.mem_append.mpr (.inr (List.mem_filter.mpr ⟨List.mem_filter.mpr ⟨hy,decide_eq_true w⟩,decide_eq_true hyx⟩)))⟩
   simp[hyx,this]
  ·simp[hyx]
 ·refine Ymx h hno fun x=>?_
  rw[List.mem_append]
  constructor
  ·rintro(w | w)
   ·exact Ygj h w
   ·exact of_decide_eq_true (Qb w).2
  ·intro w
   rcases hl x w with z | z
   ·exact .inl z
   ·exact .inr (List.mem_filter.mpr ⟨z,decide_eq_true w⟩)
 ·obtain⟨lx,jx,hx,hxn,e⟩:=hr r hm
  have hsub:=Ys3 h hx fun y hy=>by
   rcases qu hy with w | w
   ·exact Ygj h (Qb w).1
   ·exact of_decide_eq_true (Qb (Qb w).1).2
  have hrS:r.1∈S:=by rw[←hrs];exact List.mem_map_of_mem (f:=(·.1)) hm
  have hxl:r.1∉lx:=fun w=>by
   rcases qu ((hx.mem _).mp w)with z | z
   ·rcases qu z with z | z
    ·have:=(Qb z).2
     simp at this
    ·exact hSK _ hrS (Qb (Qb z).1).1
   ·exact hxn z
  refine Ymx hx (fun q hq e=>?_) fun x=>?_
  ·have h1:=hno q hq e
   cases hz:kn q.1 lx with
   | false=>rfl
   | true=>
     have:kn q.1 l=true:=by
      unfold kn
      exact List.all_eq_true.mpr fun x hx=>decide_eq_true (Yqi hz hsub x hx)
     rw[this]at h1
     cases h1
  ·rw[List.mem_append]
   constructor
   ·rintro(w | w)
    ·obtain⟨w1,w2⟩:=Qb w
     refine Ygj hx (List.mem_append.mpr (.inl (List.mem_filter.mpr ⟨w1,?_⟩)))
     simpa using w2
    ·rw[e]at w
     exact of_decide_eq_true (Qb w).2
   ·intro w
    rcases hl x (hsub x w)with z | z
    ·refine .inl (List.mem_filter.mpr ⟨z,?_⟩)
     have:¬x=r.1:=fun y=>hxl (by rw[←y];exact w)
     simp[this]
    ·rw[e]
     exact .inr (List.mem_filter.mpr ⟨z,decide_eq_true w⟩)
theorem Yxc{K l:List Nat}(h:K.length≤60):(soL K l).length≤60:=Qf (Qm _ _) h
theorem Yqm{R:List IfR}{c:D}{hs:List Bool}(hc:Yr c=some (hs.map hdD))(hl:hs.length≤60){st:Nat}(hst:st≤hs.length)(hin:InF R st hs.length) :
 (∃b is js,Yua R (ofH hs st true) (ofH hs st false) b is js∧Yay [Yx R,c,.int st]=some (outD true (.tup (loD b is js))))∨
 (∃first rows,GoodI R (ofH hs st true) (ofH hs st false) first rows∧Yay [Yx R,c,.int st]=some (outD false (.tup (roD first rows)))):=by
 have b1:=Ybq hs hc (by omega) st hst true
 have b2:=Ybq hs hc (by omega) st hst false
 simp only[hdD,if_true,Ql,if_false]at b1 b2
 have hKpw:(ofH hs st true).Pairwise (· < ·):=List.Pairwise.filter _ List.pairwise_lt_range
 have hSK:=Yol (hs:=hs) (st:=st)
 have hall:∀x,st≤x→x < hs.length→x∈ofH hs st false∨x∈ofH hs st true:=fun x h1 h2=>y2g h1 h2
 have hSl:(ofH hs st false).length≤60:=Qf (Qm _ _) (by simpa using hl)
 have hKl:(ofH hs st true).length≤60:=Qf (Qm _ _) (by simpa using hl)
 have hS60:∀x∈ofH hs st false,x < 60:=fun x hx=>Qh (Yql hx) hl
 have hK60:∀x∈ofH hs st true,x < 60:=fun x hx=>Qh (Yql hx) hl
 have hRo:∀r∈R,∀x,r.2=some x→x < 60:=fun r hr x hx=>Qh ((hin r hr).2.2 x hx).2 hl
 generalize ofH hs st false=S at *
 generalize ofH hs st true=K at *
 obtain⟨l,js,hF,hwhole⟩:=Yzr (c:=.lst (S.map nD)) R hRo S hS60 (by omega) rfl
 have hwhole':Yam [Yx R,.lst (S.map nD)]=some (fuD l js):=hwhole
 clear hwhole
 have hfu:=Yj0 l js
 have hso:=Yqk K l
 have hst0:Yv 11 [Yx R,c,.int (st:Int)]=[some (.sh (Yx R)),some (.sh c),some (.sh (.int st)),none,none,none,none,none,none,none,none]:=rfl
 rw[Yay,Yac (by rfl),hst0]
 rcases Yjs R (l:=l) (js:=js) (by have:=hF.len;omega)with⟨i,hi,hp,hpl⟩ | ⟨hn,hpl⟩
 ·refine .inl ⟨none,[],ci (js++[i]),Yw9 hF hi hp,?_⟩
  have hlo:D.tup (loD none [] (ci (js++[i])))=.tup [.str "lone",.non,.tup [],.tup ((js++[i]).map nD)]:=by
   unfold loD
   rw[←n_ci]
   rfl
  rw[hlo]
  clear hF hall hin hSK hKpw
  generalize (js++[i]).map nD=JI at *
  generalize fuD l js=fu at *
  generalize S.map nD=SS at *
  generalize K.map nD=KK at *
  generalize Yx R=bk at *
  simp[Yep,b1,b2,hwhole',hpl,outD]
 ·have pre:Yep [some (.sh (Yx R)),some (.sh c),some (.sh (.int st)),none,none,none,none,none,none,none,none] =
   Yez [some (.sh (Yx R)),some (.sh c),some (.sh (.int st)),some (.sh (.lst (K.map nD))),some (.sh (.lst (S.map nD))),some (.sh (fuD l js)),some (.sh .non),some (.sh (.tup ((soL K l).map nD))),some (.ow []),none,none]:=by
   clear hF hall hin hSK hKpw hn
   generalize (soL K l).map nD=SO at *
   generalize l.map nD=LL at *
   generalize js.map nD=JJ at *
   generalize fuD l js=fu at *
   generalize S.map nD=SS at *
   generalize K.map nD=KK at *
   generalize Yx R=bk at *
   simp[Yep,b1,b2,hwhole',hpl,hfu,hso,-Yez]
  rw[pre]
  have hloop:=Ys4 (gt:=gSet 9) (fb:=Ycp) nD (fun pre ρ=>∃(rows:List Rrw) (y6 y9 y10:Option B),rows.map (·.1)=pre∧(∀r∈rows,RowI R K S l r)∧
   ρ=[some (.sh (Yx R)),some (.sh c),some (.sh (.int st)),some (.sh (.lst (K.map nD))),some (.sh (.lst (S.map nD))),some (.sh (fuD l js)),y6,some (.sh (.tup ((soL K l).map nD))),some (.ow (rows.map rrwD)),y9,y10])
   (fun d=>∃b is js,Yua R K S b is js∧d=outD true (.tup (loD b is js))) S []
   [some (.sh (Yx R)),some (.sh c),some (.sh (.int st)),some (.sh (.lst (K.map nD))),some (.sh (.lst (S.map nD))),some (.sh (fuD l js)),some (.sh .non),some (.sh (.tup ((soL K l).map nD))),some (.ow []),none,none] ⟨[],_,_,_,rfl,fun r hr=>(nomatch hr),rfl⟩ (by
    rintro q x r ρ e ⟨rows,y6,y9,y10,hrs,hrr,rfl⟩
    rw[List.nil_append]at e
    have hxS:x∈S:=by rw[e];simp
    have hrl:rows.length≤1000:=by
     have g1:=congrArg List.length hrs
     have g2:=congrArg List.length e
     simp at g1 g2
     omega
    have hfa:=Ymb (x:=x) (S:=S) (first:=soL K l) (by omega) (by have:=Yxc (l:=l) hKl;omega)
    have hfl:(faB x S (soL K l)).length≤1000:=by
     have g1:(wob (some x) S).length≤S.length:=Qm _ _
     have g2:((soL K l).filter fun y=>decide (y < x)).length≤(soL K l).length:=Qm _ _
     have g3:=Yxc (l:=l) hKl
     unfold faB
     rw[qy]
     omega
    obtain⟨lx,jx,hX,hfull⟩:=Yzr (c:=.lst ((faB x S (soL K l)).map nD)) R hRo (faB x S (soL K l)) (fun y hy=>by
     rcases qu hy with w | w
     ·exact hS60 y (Qb w).1
     ·exact hK60 y (Qb (Qb w).1).1) hfl rfl
    have hfull':Yam [Yx R,.lst ((faB x S (soL K l)).map nD)]=some (fuD lx jx):=hfull
    clear hfull
    refine⟨[some (.sh (Yx R)),some (.sh c),some (.sh (.int st)),some (.sh (.lst (K.map nD))),some (.sh (.lst (S.map nD))),some (.sh (fuD l js)),y6,some (.sh (.tup ((soL K l).map nD))),some (.ow (rows.map rrwD)),some (.sh (.int (x:Int))),y10],rfl,?_⟩
    rcases Yik hX x with⟨p,i,q',hj,he,hpb⟩ | ⟨hnx,hpb⟩
    ·right
     rw[hj]at hX
     refine⟨outD true (.tup (loD (some x) (ci js) (ci (p++[i])))),?_,some x,ci js,ci (p++[i]),Yxa hF hSK hxS hX he,rfl⟩
     have hlo:D.tup (loD (some x) (ci js) (ci (p++[i])))=.tup [.str "lone",.int (x:Int),.tup (js.map nD),.tup ((p++[i]).map nD)]:=by
      unfold loD
      rw[←n_ci,←n_ci]
      rfl
     rw[hlo]
     clear hF hall hin hSK hKpw hn hrr hX hj
     generalize (p++[i]).map nD=PI at *
     generalize (faB x S (soL K l)).map nD=FA at *
     generalize (soL K l).map nD=SO at *
     generalize l.map nD=LL at *
     generalize js.map nD=JJ at *
     generalize fuD lx jx=fx at *
     generalize fuD l js=fu at *
     generalize S.map nD=SS at *
     generalize K.map nD=KK at *
     generalize Yx R=bk at *
     generalize rows.map rrwD=RW at *
     simp[Ycp,hfa,hfull',hpb,hfu,outD]
    ·left
     have hsx:=Yqk K lx
     have hfx:=Yj0 lx jx
     have happ:∀d:D,appD (rows.map rrwD) d=some (rows.map rrwD++[d]):=fun d=>Yrc (by rw[qe];omega)
     have hap:(rows++[(x,soL K lx)]).map rrwD=rows.map rrwD++[.tup [.int (x:Int),.tup ((soL K lx).map nD)]]:=by rw[List.map_append];rfl
     refine⟨[some (.sh (Yx R)),some (.sh c),some (.sh (.int st)),some (.sh (.lst (K.map nD))),some (.sh (.lst (S.map nD))),some (.sh (fuD l js)),some (.sh .non),some (.sh (.tup ((soL K l).map nD))),some (.ow ((rows++[(x,soL K lx)]).map rrwD)),some (.sh (.int (x:Int))),some (.sh (fuD lx jx))],?_,rows++[(x,soL K lx)],_,_,_,by rw[List.map_append,hrs];rfl,fun r hr=>?_,rfl⟩
     ·rw[hap]
      clear hF hall hin hSK hKpw hn hrr hX hnx hap
      generalize (soL K lx).map nD=SX at *
      generalize (faB x S (soL K l)).map nD=FA at *
      generalize (soL K l).map nD=SO at *
      generalize l.map nD=LL at *
      generalize lx.map nD=LX at *
      generalize js.map nD=JJ at *
      generalize jx.map nD=JX at *
      generalize fuD lx jx=fx at *
      generalize fuD l js=fu at *
      generalize S.map nD=SS at *
      generalize K.map nD=KK at *
      generalize Yx R=bk at *
      generalize rows.map rrwD=RW at *
      simp[Ycp,hfa,hfull',hpb,hfx,hsx,happ]
     ·rcases qu hr with hr | hr
      ·exact hrr r hr
      ·rw[Qk]at hr
       subst hr
       exact⟨lx,jx,hX,hnx,rfl⟩)
  rcases hloop with⟨ρ',e1,rows,y6,y9,y10,hrs,hrr,rfl⟩ | ⟨d,e1,b,is,js',hW,rfl⟩
  ·rw[List.nil_append]at hrs
   refine .inr ⟨soL K l,rows,Yxb hin hKpw hSK hall hF hn hrs hrr,?_⟩
   clear hF hall hin hSK hKpw hn hrr hrs pre
   unfold roD
   generalize (soL K l).map nD=SO at *
   generalize fuD l js=fu at *
   generalize S.map nD=SS at *
   generalize K.map nD=KK at *
   generalize Yx R=bk at *
   generalize rows.map rrwD=RW at *
   simp[e1,outD]
  ·refine .inl ⟨b,is,js',hW,?_⟩
   clear hF hall hin hSK hKpw hn pre
   generalize outD true (.tup (loD b is js'))=od at *
   generalize (soL K l).map nD=SO at *
   generalize fuD l js=fu at *
   generalize S.map nD=SS at *
   generalize K.map nD=KK at *
   generalize Yx R=bk at *
   simp[e1]
end Lw
namespace Lw
open PySem L2 M Bk
theorem Yfc{a b:String}(h:(Str.ofString a==Str.ofString b)=false)(neg:Bool):eqM neg (.str (Str.ofString a)) (.str (Str.ofString b))=some neg:=by
 rw[Yg0 (by simp) (by simp),Yra,h]
 cases neg<;>rfl
theorem Yil(a:String)(neg:Bool):eqM neg (.str (Str.ofString a)) (.str (Str.ofString a))=some (!neg):=by
 rw[Yg0 (by simp) (by simp),Yra]
 cases neg<;>simp
theorem Ymy{j:Nat}{l:List D}(h:∀d∈l,Yaf j [d]=some (.bl true)):Yaf (j+1) [.tup l]=some (.bl true):=by
 have hc:=Yf8 (fe:=Ye0 (Yaf j)) (r:=[]) (enc:=fun d:D=>d) (fun _=>.bl true) (l:=l) (fun d hd=>by simp[Ye0,h d hd])
 rw[List.map_id']at hc
 have hb:blsD (l.map fun _=>D.bl true)=some (l.map fun _=>true):=Yh9 (fun _:D=>true) l
 have hall:(l.map fun _=>true).all id=true:=by rw[List.all_map];exact List.all_eq_true.mpr fun _ _=>rfl
 rw[Yaf,Yac (by rfl)]
 generalize (l.map fun _=>D.bl true)=B2 at *
 generalize (l.map fun _=>true)=B1 at *
 simp[Yef,Yv,isiD,Yej,Ync,capR,hc,hb,hall]
theorem Ys7(j:Nat)(i:Int):Yaf (j+1) [.int i]=some (.bl true):=by
 rw[Yaf,Yac (by rfl)]
 simp[Yef,Yv,isiD,Yej,Ync,isN,Ylp]
theorem Yzt(j:Nat)(s:Str):Yaf (j+1) [.str s]=some (.bl true):=by
 rw[Yaf,Yac (by rfl)]
 simp[Yef,Yv,isiD,Yej,Ync,isN,Ylp]
theorem y5i(j:Nat)(l:List Nat):Yaf (j+2) [.tup (l.map nD)]=some (.bl true):=Ymy fun d hd=>by
 obtain⟨x,_,rfl⟩:=qw hd
 exact Ys7 j x
theorem y5j(j:Nat):Yaf (j+1) [.non]=some (.bl true):=by
 rw[Yaf,Yac (by rfl)]
 simp[Yef,Yv,isiD,Yej,Ync,isN,Ylp]
theorem y5k(j:Nat)(l:List Int):Yaf (j+2) [.tup (l.map D.int)]=some (.bl true):=Ymy fun d hd=>by
 obtain⟨x,_,rfl⟩:=qw hd
 exact Ys7 j x
theorem Yub(b:Option Nat)(is js:List Int):Yc6 [.tup (loD b is js)]=some (.bl true):=by
 refine Ymy (j:=11) fun d hd=>?_
 rcases qr hd with rfl | hd
 ·exact Yzt 10 _
 ·rcases qr hd with rfl | hd
  ·cases b with
   | none=>exact y5j 10
   | some x=>exact Ys7 10 _
  ·rcases qr hd with rfl | hd
   ·exact y5k 9 is
   ·rw[Qk]at hd
    subst hd
    exact y5k 9 js
theorem Yuc(first:List Nat)(rows:List Rrw):Yc6 [.tup (roD first rows)]=some (.bl true):=by
 refine Ymy (j:=11) fun d hd=>?_
 rcases qr hd with rfl | hd
 ·exact Yzt 10 _
 ·rcases qr hd with rfl | hd
  ·exact y5i 9 first
  ·rw[Qk]at hd
   subst hd
   refine Ymy (j:=10) fun d hd=>?_
   obtain⟨r,_,rfl⟩:=qw hd
   refine Ymy (j:=9) fun d hd=>?_
   rcases qr hd with rfl | hd
   ·exact Ys7 8 _
   ·rw[Qk]at hd
    subst hd
    exact y5i 7 r.2
theorem Yr1(b:Option Nat)(is js:List Int):Ybh [.tup (loD b is js)]=some (.bl true):=by
 have e1:=Yfc (a:="lone") (b:="plan") (by decide +kernel) false
 have e2:=Yfc (a:="lone") (b:="sums") (by decide +kernel) false
 have e3:inM false (.str "lone") (.lst [.str "clash",.str "cross",.str "late"])=some false:=by decide +kernel
 have hi:Yr (.tup (loD b is js))=some (.str "lone"::[optD b,.tup (is.map D.int),.tup (js.map D.int)]):=rfl
 rw[Ybh,Yac (by rfl)]
 generalize D.tup (loD b is js)=lo at *
 simp[Ygh,Yv,hi,e1,e2,e3]
theorem Yr2(first:List Nat)(rows:List Rrw):Ybh [.tup (roD first rows)]=some (.bl true):=by
 have e1:=Yfc (a:="rows") (b:="plan") (by decide +kernel) false
 have e2:=Yfc (a:="rows") (b:="sums") (by decide +kernel) false
 have e3:inM false (.str "rows") (.lst [.str "clash",.str "cross",.str "late"])=some false:=by decide +kernel
 have hi:Yr (.tup (roD first rows))=some (.str "rows"::[.tup (first.map nD),.tup (rows.map rrwD)]):=rfl
 rw[Ybh,Yac (by rfl)]
 generalize D.tup (roD first rows)=lo at *
 simp[Ygh,Yv,hi,e1,e2,e3]
theorem Yzu{n x:Nat}{l:List Nat}(h:x < n):at' (litE n l) x=decide (x∈l):=by
 unfold at' litE
 rw[Qn,Qg,List.getElem?_range h]
 rfl
theorem y5l{n:Nat}{l:List Nat}{r:IfR}(hb:∀x∈r.1,x < n)(hh:∀x,r.2=some x→x < n)(h:Hl l r):so .i (litE n l) (imR r)=true:=by
 show((r.1.any fun x=>at' (litE n l) x != decide (Kd.i=.i))||hd (litE n l) (decide (Kd.i=.i)) r.2)=true
 cases hz:r.1.any fun x=>at' (litE n l) x != decide (Kd.i=.i)with
 | true=>rfl
 | false=>
   rw[Bool.false_or]
   have hall:∀x∈r.1,x∈l:=fun x hx=>by
    rw[List.any_eq_false]at hz
    have:=hz x hx
    rw[Yzu (hb x hx)]at this
    simpa using this
   obtain⟨y,e,hy⟩:=h hall
   rw[e]
   show(at' (litE n l) y==decide (Kd.i=.i))=true
   rw[Yzu (hh y e),decide_eq_true hy]
   rfl
theorem Yxd{n:Nat}{l:List Nat}{R:List IfR}{st:Nat}(hin:InF R st n)(h:∀q∈R,Hl l q):brk .i (litE n l) (R.map imR)=[]:=by
 unfold brk
 rw[List.filter_eq_nil_iff]
 intro i hi
 have hm:=Ywq (Qa hi)
 obtain⟨r,hr,e⟩:=qw hm
 rw[←e,y5l (fun x hx=>((hin r hr).2.1 x hx).2) (fun x hx=>((hin r hr).2.2 x hx).2) (h r hr)]
 exact qh
theorem Yr3{R:List IfR}{hs:List Bool}(hl:hs.length≤60){st:Nat}(hst:st≤hs.length)(hin:InF R st hs.length){first:List Nat}{rows:List Rrw}(h:GoodI R (ofH hs st true) (ofH hs st false) first rows) :
 Yb0 [.tup (roD first rows),Yx R,.tup (hs.map hdD),.int st]=some (.bl true):=by
 have b1:=Ybq (c:=.tup (hs.map hdD)) hs rfl (by omega) st hst true
 have b2:=Ybq (c:=.tup (hs.map hdD)) hs rfl (by omega) st hst false
 simp only[hdD,if_true,Ql,if_false]at b1 b2
 have hSl:(ofH hs st false).length≤60:=Qf (Qm _ _) (by simpa using hl)
 have hK60:∀x∈ofH hs st true,x < 60:=fun x hx=>Qh (Yql hx) hl
 have few:∀l:List Nat,l.Pairwise (· < ·)→(∀y∈l,y∈ofH hs st true)→l.length≤100:=fun l h1 h2=>by
  have:=Yfv 60 l (h1.imp fun h=>ql h) (fun x hx=>hK60 x (h2 x hx))
  omega
 have hrl:rows.length≤100:=by
  have g:=congrArg List.length h.rs
  simp at g
  omega
 have hRi:∀r∈R.map imR,In .i hs.length r:=fun r hr=>by
  obtain⟨q,hq,rfl⟩:=qw hr
  exact⟨.inl rfl,fun x hx=>((hin q hq).2.1 x hx).2,fun x hx=>((hin q hq).2.2 x hx).2⟩
 have hg:=Yrz (first:=first) (fun x hx=>hK60 x (h.fK.2 x hx)) (few first h.fK.1 h.fK.2) (rows:=rows) hrl (fun r hr=>⟨few r.2 (h.rK r hr).1 (h.rK r hr).2.1,fun y hy=>hK60 y ((h.rK r hr).2.1 y hy)⟩) (n:=hs.length) (by omega) hRi (ofH hs st true) (S:=ofH hs st false) (by omega)
 have hrb:Yy0 first rows (R.map imR) (ofH hs st true) (ofH hs st false) hs.length=true:=by
  have hsome:∀l:List Nat,l.Pairwise (· < ·)→(∀y∈l,y∈ofH hs st true)→Yqh l (ofH hs st true)=true:=fun l h1 h2=>by
   unfold Yqh Ymw
   rw[Qd,List.all_eq_true]
   exact⟨decide_eq_true h1,fun y hy=>decide_eq_true (h2 y hy)⟩
  unfold Yy0
  rw[Qd,Qd,Qd,decide_eq_true_eq,List.all_eq_true,List.all_eq_true]
  refine⟨⟨⟨hsome first h.fK.1 h.fK.2,h.rs⟩,fun r hr=>?_⟩,fun l hm=>?_⟩
  ·unfold rowR
   rw[Qd,decide_eq_true_eq]
   exact⟨hsome r.2 (h.rK r hr).1 (h.rK r hr).2.1,(h.rK r hr).2.2⟩
  ·rw[decide_eq_true_eq]
   unfold lits at hm
   rcases qr hm with rfl | hm
   ·exact Yxd hin h.h0
   ·obtain⟨r,hr,rfl⟩:=qw hm
    exact Yxd hin (h.hb r hr)
 rw[hrb,y2e]at hg
 clear hrb h few
 rw[Yb0,Ybo,Yac (by rfl)]
 have e1:=Yfc (a:="rows") (b:="plan") (by decide +kernel) false
 have e2:=Yfc (a:="rows") (b:="sums") (by decide +kernel) false
 have e3:=Yil "rows" false
 have k1:=Yfc (a:="ifs") (b:="nots") (by decide +kernel) false
 have k3:=Yil "ifs" false
 have hib:=Yfu R
 have hip:Yr (.tup (roD first rows))=some [.str "rows",.tup (first.map nD),.tup (rows.map rrwD)]:=rfl
 have a2:∀a b c:D,atI [a,b,c] 2=some c:=fun a b c=>rfl
 have hlen:((hs.map hdD).length:Int)=(hs.length:Int):=by simp
 generalize (ofH hs st true).map nD=KK at *
 generalize (ofH hs st false).map nD=SS at *
 generalize D.tup (roD first rows)=pp at *
 generalize rows.map rrwD=WW at *
 generalize first.map nD=FF at *
 generalize R.map ifD=RR at *
 generalize Yx R=bk at *
 generalize hs.length=nn at *
 generalize hs.map hdD=HH at *
 simp only[Bool.not_false]at e3 k3
 simp[Yif,Yv,hib,hip,b1,b2,e1,e2,e3,k1,k3,a2,hlen,hg]
theorem Yud{R:List IfR}{hs:List Bool}(hl:hs.length≤60){st:Nat}(hst:st≤hs.length)(hin:InF R st hs.length){b:Option Nat}{is js:List Int}(h:Yua R (ofH hs st true) (ofH hs st false) b is js) :
 Ycf [.tup (loD b is js),Yx R,.tup (hs.map hdD),.int st]=some (.bl true):=by
 have hSl:(ofH hs st false).length≤60:=Qf (Qm _ _) (by simpa using hl)
 have hKl:(ofH hs st true).length≤60:=Qf (Qm _ _) (by simpa using hl)
 have hg:=Yrw R (n:=hs.length) (by omega) (fun r hr x hx=>((hin r hr).2.2 x hx).2) (Kp:=ofH hs st true) (S:=ofH hs st false) (fun x hx=>Yql hx) (fun x hx=>Yql hx) (by omega) (by omega) b (is:=is) (js:=js) (by have:=h.2.1;omega) (by have:=h.2.2;omega)
 rw[h.1]at hg
 have hg':Ycc [.tup (loD b is js),Yx R,.lst ((ofH hs st true).map nD),.lst ((ofH hs st false).map nD)]=some (.bl true):=hg
 clear hg h
 have b1:=Ybq (c:=.tup (hs.map hdD)) hs rfl (by omega) st hst true
 have b2:=Ybq (c:=.tup (hs.map hdD)) hs rfl (by omega) st hst false
 simp only[hdD,if_true,Ql,if_false]at b1 b2
 rw[Ycf,Yb1,Yac (by rfl)]
 have e1:=Yfc (a:="lone") (b:="broken") (by decide +kernel) false
 have e2:=Yfc (a:="lone") (b:="odd") (by decide +kernel) false
 have e3:=Yil "lone" false
 have k1:=Yfc (a:="ifs") (b:="nots") (by decide +kernel) false
 have k2:=Yfc (a:="ifs") (b:="eithers") (by decide +kernel) false
 have k3:=Yil "ifs" false
 have hib:=Yfu R
 have hip:Yr (.tup (loD b is js))=some (.str "lone"::[optD b,.tup (is.map D.int),.tup (js.map D.int)]):=rfl
 generalize (ofH hs st true).map nD=KK at *
 generalize (ofH hs st false).map nD=SS at *
 generalize D.tup (loD b is js)=pp at *
 generalize R.map ifD=RR at *
 generalize Yx R=bk at *
 generalize hs.map hdD=HH at *
 simp only[Bool.not_false]at e3 k3
 simp[Yjd,Yv,hib,hip,b1,b2,e1,e2,e3,k1,k2,k3,hg']
theorem Ymz{pl:List D}{bk c:D}{st:Int}(w:Bool)(hpl:Yc6 [.tup pl]=some (.bl true))(htr:Ybh [.tup pl]=some (.bl true))(hg:(w=true→Ycf [.tup pl,bk,c,.int st]=some (.bl true))∧(w=false→Yb0 [.tup pl,bk,c,.int st]=some (.bl true))) :
 Ybp [outD w (.tup pl),bk,c,.int st]=some (.bl true):=by
 have e1:=Yfc (a:="storm") (b:="keeper") (by decide +kernel) false
 have e2:=Yfc (a:="storm") (b:="keeper") (by decide +kernel) true
 have e3:=Yil "storm" true
 have e4:=Yil "keeper" true
 have e5:=Yil "keeper" false
 simp only[Bool.not_false,Bool.not_true]at e3 e4 e5
 cases w with
 | true=>
   have h:=hg.1 rfl
   have hgd:Yk7 [.tup pl,bk,c,.int st,.str "storm"]=some (.bl true):=by
    rw[Yk7,Yac (by rfl)]
    simp[Ywx,Yv,e1,h]
   rw[Ybp,Yac (by rfl)]
   simp[Yi4,Yv,outD,isiD,Yej,Ync,e2,e3,hpl,htr,hgd,isBl]
 | false=>
   have h:=hg.2 rfl
   have hgd:Yk7 [.tup pl,bk,c,.int st,.str "keeper"]=some (.bl true):=by
    rw[Yk7,Yac (by rfl)]
    simp[Ywx,Yv,e5,h]
   rw[Ybp,Yac (by rfl)]
   simp[Yi4,Yv,outD,isiD,Yej,Ync,e4,hpl,htr,hgd,isBl]
end Lw
namespace Lw
open PySem L2 M Bk
theorem Yxe{n st:Nat}(hn:n≤60):∀{R:List Rl},(∀r∈R,In .i n r∧Srt r∧∀x∈bcs r,st≤x)→∃Q:List IfR,Q.length=R.length∧InF Q st n∧R.map rlD=Q.map ifD
 | [],_=>⟨[],rfl,fun q hq=>(nomatch hq),rfl⟩
 | r::R,h=>by
   obtain⟨Q,h1,h2,h3⟩:=Yxe hn fun x hx=>h x (qf _ hx)
   obtain⟨g1,g2,g3⟩:=h r qg
   cases r with
   | ei l=>cases g1.1
   | su b o=>cases g1.1
   | im b o=>
     refine⟨(b,o)::Q,by simp[h1],fun q hq=>?_,?_⟩
     ·rcases qr hq with rfl | hq
      ·refine⟨g2,fun x hx=>⟨g3 x ?_,g1.2.1 x hx⟩,fun x hx=>⟨g3 x ?_,g1.2.2 x hx⟩⟩
       ·cases o with
        | none=>exact hx
        | some y=>exact List.mem_append.mpr (.inl hx)
       ·have hx':o=some x:=hx
        subst hx'
        exact List.mem_append.mpr (.inr (by simp))
      ·exact h2 q hq
     ·rw[Qc,Qc,h3]
      rfl
theorem Yy2{Q:List IfR}{st m n:Nat}(h:InF Q st m)(hm:m≤n):InF Q st n:=fun q hq=>by
 obtain⟨g0,g1,g2⟩:=h q hq
 exact⟨g0,fun x hx=>⟨(g1 x hx).1,by have:=(g1 x hx).2;omega⟩,fun x hx=>⟨(g2 x hx).1,by have:=(g2 x hx).2;omega⟩⟩
theorem Yqn(b:Bool):eqM false (hdD b) (.str "keeper")=some b:=by
 have e:D.str "keeper"=hdD true:=rfl
 rw[e,y5d]
 cases b<;>rfl
theorem y5m{hs:List Bool}{i:Nat}(h:i < hs.length):atI (hs.map hdD) (i:Int)=some (hdD (hs.getD i false)):=by
 rw[Yfk,Yh8 h]
 simp[h]
theorem Yqo(ns:List Int)(hns:ns.length≤63):∃(R:List IfR) (hs:List Bool) (st:Nat),R.length≤59∧hs.length≤60∧st < hs.length∧InF R st hs.length∧Yc7 [.str "ifs",.scr ns]=some (.lst [Yx R,.tup (hs.map hdD),.int (st:Int)]):=by
 have c0:=Yqb ns 0
 have c1:=Yqb ns 1
 have c2:=Yqb ns 2
 have c3:=Yqb ns 3
 generalize ns.getD 0 0=x0 at c0
 generalize ns.getD 1 0=x1 at c1
 generalize ns.getD 2 0=x2 at c2
 generalize ns.getD 3 0=x3 at c3
 simp at c0 c1 c2 c3
 obtain⟨n,hn⟩:∃n:Nat,1+x0 % 60=(n:Int):=⟨(1+x0 % 60).toNat,by omega⟩
 have hn60:n≤60:=by omega
 have hn1:1≤n:=by omega
 have hpI:(0:Int) < (n:Int):=by omega
 have q1:=Int.emod_nonneg (x0 / 60) (show(n:Int)≠0 by omega)
 have q2:=Int.emod_lt_of_pos (x0 / 60) hpI
 have hmod:modI (.int (x0 / 60)) (.int (n:Int))=some (.int (x0 / 60 % (n:Int))):=Yh6 hpI
 obtain⟨st,hst⟩:∃s:Nat,x0 / 60 % (n:Int)=(s:Int):=⟨(x0 / 60 % (n:Int)).toNat,by omega⟩
 rw[hst]at hmod
 have hstn:st < n:=by omega
 obtain⟨h1,hl1,he1⟩:=Ylg x1 n (by omega)
 obtain⟨h2,hl2,he2⟩:=Ylg x3 n (by omega)
 obtain⟨v,hv0,hv⟩:=Yog x2 1865811235122147685
 have hg:=Yix (n:=(n:Int)) (by omega) (by omega)
 rw[Yhi]at hg
 have el:((n:Int) - 0).toNat=n:=by omega
 rw[el]at hg
 simp only[Int.zero_add]at hg
 have hch:=Yf8 (fe:=Ye1) (r:=[some (.sh (.tup (h1.map hdD))),some (.sh (.tup (h2.map hdD)))]) (enc:=fun i:Nat=>D.int ((i:Nat):Int)) (fun i=>hdD (h1.getD i false||h2.getD i false)) (l:=List.range n) (fun i hi=>by
  have hin:=Qa hi
  have a1:=y5m (hs:=h1) (i:=i) (by omega)
  have a2:=y5m (hs:=h2) (i:=i) (by omega)
  have k1:=Yqn (h1.getD i false)
  have k2:=Yqn (h2.getD i false)
  generalize h1.getD i false=u1 at *
  generalize h2.getD i false=u2 at *
  generalize h1.map hdD=H1 at *
  generalize h2.map hdD=H2 at *
  generalize hd1:hdD u1=d1 at *
  generalize hd2:hdD u2=d2 at *
  cases u1<;>cases u2<;>simp[Ye1,a1,a2,k1,k2,hdD])
 have hmm:((List.range n).map fun i=>hdD (h1.getD i false||h2.getD i false))=((List.range n).map fun i=>h1.getD i false||h2.getD i false).map hdD:=by rw[Qj];rfl
 rw[hmm]at hch
 obtain⟨hs,hsl,hhand⟩:∃hs:List Bool,hs.length=n∧∀a7 a8:Option B,Yb2 [some (.sh (.str "ifs")),some (.sh (.scr ns)),some (.sh (.int n)),some (.sh (.int st)),some (.sh (.tup (h1.map hdD))),some (.sh (.int v)),none,none,none]=Yb2 [some (.sh (.str "ifs")),some (.sh (.scr ns)),some (.sh (.int n)),some (.sh (.int st)),some (.sh (.tup (h1.map hdD))),some (.sh (.int v)),none,none,none]∧∃z6:Option B,Yb2 [some (.sh (.str "ifs")),some (.sh (.scr ns)),some (.sh (.int n)),some (.sh (.int st)),some (.sh (.tup (h1.map hdD))),some (.sh (.int v)),none,none,none]=Ydu [some (.sh (.str "ifs")),some (.sh (.scr ns)),some (.sh (.int n)),some (.sh (.int st)),some (.sh (.tup (hs.map hdD))),some (.sh (.int v)),z6,none,none]:=by
  by_cases hv3:v % 3=0
  ·refine⟨(List.range n).map fun i=>h1.getD i false||h2.getD i false,by simp,fun _ _=>⟨rfl,some (.sh (.tup (h2.map hdD))),?_⟩⟩
   generalize ((List.range n).map fun i=>h1.getD i false||h2.getD i false).map hdD=HS at *
   generalize h1.map hdD=H1 at *
   generalize h2.map hdD=H2 at *
   simp[hv3,c3,he2,hg,capR,hch,-Ydu]
  ·refine⟨h1,hl1,fun _ _=>⟨rfl,none,?_⟩⟩
   generalize h1.map hdD=H1 at *
   simp[hv3,-Ydu]
 obtain⟨_,z6,e4⟩:=hhand none none
 obtain⟨w,hwm,hwa⟩:=Yrb (l:=[60,60,60,3,6,12,6,12,(6:Int)]) (i:=v / 3 % 9) (Int.emod_nonneg _ (by decide)) (by have:=Int.emod_lt_of_pos (v / 3) (show(0:Int) < 9 by decide);simpa using this)
 have hw3:3≤w:=by
  simp at hwm
  omega
 have hwat:atI ([60,60,60,3,6,12,6,12,(6:Int)].map D.int) (v / 3 % 9)=some (.int w):=by rw[Yfk,hwa];rfl
 have hki:∀ρ:Ro,Ykh [60,60,60,3,6,12,6,12,6] ρ=some ([60,60,60,3,6,12,6,12,(6:Int)].map D.int):=fun _=>rfl
 obtain⟨far,hfar⟩:∃f:Nat,(if (st:Int)+w < (n:Int)then (st:Int)+w else (n:Int))=(f:Int):=⟨(if (st:Int)+w < (n:Int)then (st:Int)+w else (n:Int)).toNat,by split<;>omega⟩
 have hfar1:st < far∧far≤n:=by
  split at hfar<;>omega
 obtain⟨m,hm⟩:∃m:Nat,4+v / 32 % 41=(m:Int):=⟨(4+v / 32 % 41).toNat,by omega⟩
 have hcut:=y2a ns 4 m
 have hcl:((ns.drop (min 4 ns.length)).take (min m ns.length - min 4 ns.length)).length≤59:=by
  rw[List.length_take,List.length_drop]
  omega
 generalize (ns.drop (min 4 ns.length)).take (min m ns.length - min 4 ns.length)=cs at *
 have h4:((4:Nat):Int)=4:=rfl
 rw[h4]at hcut
 obtain⟨R0,hR0,hR1,hR2⟩:=drawn (fe:=Ye2) (r:=[some (.sh (.str "ifs")),some (.sh (.int (st:Int))),some (.sh (.int (far:Int)))]) (P:=fun r=>In .i far r∧Srt r∧∀x∈bcs r,st≤x) (fun c=>by
  obtain⟨r,g1,g2,g3,g4⟩:=y2c .i c st far hfar1.1 (by omega)
  refine⟨r,⟨g1,g2,g3⟩,?_⟩
  have hks:kdD .i=.str "ifs":=rfl
  rw[hks]at g4
  generalize rlD r=rr at *
  simp[Ye2,g4]) cs
 obtain⟨R,hRl,hRb,hRe⟩:=Yxe (st:=st) (n:=far) (by omega) hR1
 rw[hRe]at hR2
 refine⟨R,hs,st,by omega,by omega,by omega,by rw[hsl];exact Yy2 hRb hfar1.2,?_⟩
 rw[Yc7,Yac (by rfl)]
 have hst0:Yv 9 [.str "ifs",.scr ns]=[some (.sh (.str "ifs")),some (.sh (.scr ns)),none,none,none,none,none,none,none]:=rfl
 have pre:Yhs [some (.sh (.str "ifs")),some (.sh (.scr ns)),none,none,none,none,none,none,none]=Yb2 [some (.sh (.str "ifs")),some (.sh (.scr ns)),some (.sh (.int n)),some (.sh (.int st)),some (.sh (.tup (h1.map hdD))),some (.sh (.int v)),none,none,none]:=by
  generalize h1.map hdD=H1 at *
  simp[Yhs,c0,hn,hmod,c1,he1,c2,hv,-Yb2]
 rw[hst0,pre,e4]
 have hbk:Yx R=.tup [.str "ifs",.tup (R.map ifD)]:=rfl
 rw[hbk]
 clear hhand e4 pre hch hmm hwm hwa
 generalize [60,60,60,3,6,12,6,12,(6:Int)].map D.int=WL at *
 generalize hs.map hdD=HS at *
 generalize R.map ifD=RR at *
 generalize cs.map D.int=CC at *
 simp[hki,hwat,hfar,hm,hcut,capR,hR2]
def FolL(R M:List IfR):Prop:=∀A,(∀q∈R,Hl A q)→∀q∈M,Hl A q
theorem Yy3{R:List IfR}{st n:Nat}(hn:n≤60)(hin:InF R st n){r o:IfR}(hr:r∈R)(ho:o∈R){M:List IfR}(hM:InF M st n∧FolL R M∧M.length≤100)(a0 a1 a2 a3 a6 y8:Option B) :
 ∃(M':List IfR) (z8:Option B),(InF M' st n∧FolL R M'∧M'.length≤M.length+1)∧Yaq [a0,a1,a2,a3,some (.ow (M.map ifD)),some (.sh (ifD r)),a6,some (.sh (ifD o)),y8]=some (.nx [a0,a1,a2,a3,some (.ow (M'.map ifD)),some (.sh (ifD r)),a6,some (.sh (ifD o)),z8]):=by
 have hri:=Yij r
 have hoi:=Yij o
 have hlen:((M.map ifD).length:Int)=(M.length:Int):=by simp
 cases e:r.2 with
 | none=>
   refine⟨M,y8,⟨hM.1,hM.2.1,by omega⟩,?_⟩
   rw[e]at hri
   simp only[optD]at hri
   generalize ifD r=rr at *
   generalize ifD o=oo at *
   generalize M.map ifD=MM at *
   simp[Yaq,hri]
 | some h=>
   rw[e]at hri
   simp only[optD]at hri
   have hin1:=in_n (c:=.tup (o.1.map nD)) h o.1 false rfl
   by_cases hm:h∈o.1
   ·by_cases hl8:M.length < 8
    ·have hc:=Yjc (fc:=Ycs) (fe:=Yct) (r:=[some (.sh (ifD r))]) (enc:=nD) (fun y=>!decide (y=h)) nD (l:=o.1) (fun y _=>by
      have hq:=Yoi true y (some h)
      have hs:optD (some h)=.int (h:Int):=rfl
      rw[hs]at hq
      have e2:decide (some y=some h)=decide (y=h):=decide_eq_decide.mpr ⟨fun z=>Option.some.inj z,fun z=>congrArg some z⟩
      rw[e2]at hq
      simp only[if_true]at hq
      generalize ifD r=rr at *
      simp only[Ycs]
      simpa [hri]using hq) (fun y _ _=>by simp[Yct])
     obtain⟨r0,r1,r2⟩:=hin r hr
     obtain⟨o0,o1,o2⟩:=hin o ho
     have few:∀l:List Nat,l.Pairwise (· < ·)→(∀x∈l,st≤x∧x < n)→l.length≤60:=fun l h1 h2=>Yfv 60 l (h1.imp fun h=>ql h) (fun x hx=>by have:=(h2 x hx).2;omega)
     have f1:=few r.1 r0 r1
     have f2:=few o.1 o0 o1
     have f3:(o.1.filter fun y=>!decide (y=h)).length≤o.1.length:=Qm _ _
     have hcat:catD (.lst ((o.1.filter fun y=>!decide (y=h)).map nD)) (.lst (r.1.map nD))=some (((o.1.filter fun y=>!decide (y=h))++r.1).map nD):=by
      rw[Yf7 (by simp;omega),List.map_append]
     obtain⟨bd,hb1,hb2,hss⟩:=Yjz (n:=60) (by omega) ((o.1.filter fun y=>!decide (y=h))++r.1) (fun x hx=>by
      rcases qu hx with w | w
      ·have:=(o1 x (Qb w).1).2
       omega
      ·have:=(r1 x w).2
       omega) (by rw[qy];omega)
     have happ:∀d:D,appD (M.map ifD) d=some (M.map ifD++[d]):=fun d=>Yrc (by rw[qe];omega)
     have hap:(M++[(bd,o.2)]).map ifD=M.map ifD++[.tup [.tup (bd.map nD),optD o.2]]:=by rw[List.map_append];rfl
     refine⟨M++[(bd,o.2)],some (.ow ((o.1.filter fun y=>!decide (y=h)).map nD)),⟨fun q hq=>?_,fun A hA q hq=>?_,by simp⟩,?_⟩
     ·rcases qu hq with hq | hq
      ·exact hM.1 q hq
      ·rw[Qk]at hq
       subst hq
       refine⟨hb1,fun x hx=>?_,fun x hx=>o2 x hx⟩
       rcases qu ((hb2 x).mp hx)with w | w
       ·exact o1 x (Qb w).1
       ·exact r1 x w
     ·rcases qu hq with hq | hq
      ·exact hM.2.1 A hA q hq
      ·rw[Qk]at hq
       subst hq
       intro hb
       have hb':∀x∈bd,x∈A:=hb
       obtain⟨y,hy,hyA⟩:=hA r hr fun x hx=>hb' x ((hb2 x).mpr (List.mem_append.mpr (.inr hx)))
       rw[e]at hy
       cases hy
       refine hA o ho fun x hx=>?_
       by_cases hxh:x=h
       ·rw[hxh]
        exact hyA
       ·exact hb' x ((hb2 x).mpr (List.mem_append.mpr (.inl (List.mem_filter.mpr ⟨hx,by simp[hxh]⟩))))
     ·rw[hap]
      simp only[hm,decide_true,Ql,if_false]at hin1
      have hlf:Yfe [.tup (r.1.map nD)]=some (r.1.map nD):=rfl
      have hl8':(M.length:Int) < 8:=by omega
      clear hap few hM
      generalize bd.map nD=BD at *
      generalize ((o.1.filter fun y=>!decide (y=h))++r.1).map nD=CC at *
      generalize (o.1.filter fun y=>!decide (y=h)).map nD=OF at *
      generalize o.1.map nD=O1 at *
      generalize r.1.map nD=R1 at *
      generalize optD o.2=oh at *
      generalize ifD r=rr at *
      generalize ifD o=oo at *
      generalize M.length=ml at *
      generalize M.map ifD=MM at *
      simp[Yaq,hri,hoi,hin1,hlen,hl8,hl8',capR,hc,hlf,hcat,hss,happ]
    ·refine⟨M,y8,⟨hM.1,hM.2.1,by omega⟩,?_⟩
     simp only[hm,decide_true,Ql,if_false]at hin1
     have hl8':¬(M.length:Int) < 8:=by omega
     generalize o.1.map nD=O1 at *
     generalize ifD r=rr at *
     generalize ifD o=oo at *
     generalize M.length=ml at *
     generalize M.map ifD=MM at *
     simp[Yaq,hri,hoi,hin1,hlen,hl8,hl8']
   ·refine⟨M,y8,⟨hM.1,hM.2.1,by omega⟩,?_⟩
    simp only[hm,decide_false,Ql,if_false]at hin1
    generalize o.1.map nD=O1 at *
    generalize ifD r=rr at *
    generalize ifD o=oo at *
    generalize M.map ifD=MM at *
    simp[Yaq,hri,hoi,hin1]
theorem Ylm{R:List IfR}(hRl:R.length≤60){hs:List Bool}(hl:hs.length≤60){st:Nat}(hst:st < hs.length)(hin:InF R st hs.length){v:Int} :
 ∃M:List IfR,InF M st hs.length∧FolL R M∧M.length≤100∧Ya2 [.tup (R.map ifD),.tup (hs.map hdD),.int st,.int v]=some (.tup (M.map ifD)):=by
 have hlenR:((R.map ifD).length:Int)=(R.length:Int):=by simp
 have hlenH:((hs.map hdD).length:Int)=(hs.length:Int):=by simp
 have hst0:Yv 9 [.tup (R.map ifD),.tup (hs.map hdD),.int (st:Int),.int v]=[some (.sh (.tup (R.map ifD))),some (.sh (.tup (hs.map hdD))),some (.sh (.int st)),some (.sh (.int v)),none,none,none,none,none]:=rfl
 by_cases hp:0 < R.length
 ·have hpI:(0:Int) < (R.length:Int):=by omega
  obtain⟨r,hr,hra⟩:=Yrb (l:=R) (i:=v % (R.length:Int)) (Int.emod_nonneg _ (by omega)) (Int.emod_lt_of_pos _ hpI)
  have hat:atI (R.map ifD) (v % (R.length:Int))=some (ifD r):=by rw[Yfk,hra];rfl
  have hm1:modI (.int v) (.int (R.length:Int))=some (.int (v % (R.length:Int))):=Yh6 hpI
  have hdI:(0:Int) < (hs.length:Int) - (st:Int):=by omega
  have hm2:modI (.int (v / 64)) (.int ((hs.length:Int) - (st:Int)))=some (.int (v / 64 % ((hs.length:Int) - (st:Int)))):=Yh6 hdI
  have g1:=Int.emod_nonneg (v / 64) (show(hs.length:Int) - (st:Int)≠0 by omega)
  have g2:=Int.emod_lt_of_pos (v / 64) hdI
  obtain⟨be,hbe⟩:∃b:Nat,(st:Int)+v / 64 % ((hs.length:Int) - (st:Int))=(b:Int):=⟨((st:Int)+v / 64 % ((hs.length:Int) - (st:Int))).toNat,by omega⟩
  have hbe1:st≤be∧be < hs.length:=by omega
  obtain⟨r0,r1,r2⟩:=hin r hr
  have f1:r.1.length≤60:=Yfv 60 r.1 (r0.imp fun h=>ql h) (fun x hx=>by have:=(r1 x hx).2;omega)
  have hcat:catD (.lst (r.1.map nD)) (.lst [.int (be:Int)])=some ((r.1++[be]).map nD):=by
   rw[Yf7 (by simp;omega),List.map_append]
   rfl
  obtain⟨bd,hb1,hb2,hss⟩:=Yjz (n:=60) (by omega) (r.1++[be]) (fun x hx=>by
   rcases qu hx with w | w
   ·have:=(r1 x w).2
    omega
   ·rw[Qk]at w
    omega) (by rw[qy,List.length_singleton];omega)
  have hM0:InF [(bd,r.2)] st hs.length∧FolL R [(bd,r.2)]:=by
   refine⟨fun q hq=>?_,fun A hA q hq=>?_⟩
   ·rw[Qk]at hq
    subst hq
    refine⟨hb1,fun x hx=>?_,fun x hx=>r2 x hx⟩
    rcases qu ((hb2 x).mp hx)with w | w
    ·exact r1 x w
    ·rw[Qk]at w
     omega
   ·rw[Qk]at hq
    subst hq
    intro hb
    exact hA r hr fun x hx=>hb x ((hb2 x).mpr (List.mem_append.mpr (.inl hx)))
  obtain⟨ρ',e1,M,y7,y8,hM1,hM2,hM3,rfl⟩:=Ynm (gt:=gSet 7) (fb:=Yaq) ifD (fun pre ρ=>∃(M:List IfR) (y7 y8:Option B),InF M st hs.length∧FolL R M∧M.length≤pre.length+1∧
   ρ=[some (.sh (.tup (R.map ifD))),some (.sh (.tup (hs.map hdD))),some (.sh (.int st)),some (.sh (.int v)),some (.ow (M.map ifD)),some (.sh (ifD r)),some (.sh (.int (be:Int))),y7,y8]) R []
   [some (.sh (.tup (R.map ifD))),some (.sh (.tup (hs.map hdD))),some (.sh (.int st)),some (.sh (.int v)),some (.ow ([(bd,r.2)].map ifD)),some (.sh (ifD r)),some (.sh (.int (be:Int))),none,none] ⟨[(bd,r.2)],none,none,hM0.1,hM0.2,by simp,rfl⟩ (by
    rintro q o t ρ e ⟨M,y7,y8,k1,k2,k3,rfl⟩
    rw[List.nil_append]at e
    have ho:o∈R:=by rw[e];simp
    have hq:q.length≤60:=by
     have:=congrArg List.length e
     simp at this
     omega
    obtain⟨M',z8,⟨j1,j2,j3⟩,hst'⟩:=Yy3 (n:=hs.length) hl hin hr ho (M:=M) ⟨k1,k2,by omega⟩ (some (.sh (.tup (R.map ifD)))) (some (.sh (.tup (hs.map hdD)))) (some (.sh (.int st))) (some (.sh (.int v))) (some (.sh (.int (be:Int)))) y8
    exact⟨_,_,rfl,hst',M',_,_,j1,j2,by simp;omega,rfl⟩)
  rw[List.nil_append]at hM3
  refine⟨M,hM1,hM2,by omega,?_⟩
  have happ:∀d:D,appD [] d=some [d]:=fun d=>Yrc (by simp)
  have hif:([(bd,r.2)]:List IfR).map ifD=[.tup [.tup (bd.map nD),optD r.2]]:=rfl
  rw[hif]at e1
  have hri:=Yij r
  have hlf:Yfe [.tup (r.1.map nD)]=some (r.1.map nD):=rfl
  rw[Ya2,Yac (by rfl),hst0]
  clear hM0 hM1 hM2 hM3 hif
  generalize v % (R.length:Int)=i1 at *
  generalize v / 64 % ((hs.length:Int) - (st:Int))=i2 at *
  generalize bd.map nD=BD at *
  generalize (r.1++[be]).map nD=RB at *
  generalize r.1.map nD=R1 at *
  generalize optD r.2=rh at *
  generalize ifD r=rr at *
  generalize M.map ifD=MM at *
  generalize hL:R.length=RL at *
  generalize hs.length=hn at *
  generalize R.map ifD=RR at *
  generalize hs.map hdD=HH at *
  simp[Yeg,hlenR,hlenH,hp,hm1,hat,hm2,hbe,hri,hlf,hcat,hss,happ,e1]
 ·have h0:R.length=0:=by omega
  refine⟨[],fun q hq=>(nomatch hq),fun A _ q hq=>(nomatch hq),by simp,?_⟩
  rw[h0]at hlenR
  rw[Ya2,Yac (by rfl),hst0]
  generalize R.map ifD=RR at *
  generalize hs.map hdD=HH at *
  simp[Yeg,hlenR]
end Lw
namespace Lw
open PySem L2 M Bk
theorem Yxf{R:List IfR}{hs:List Bool}(hl:hs.length≤60){st:Nat}(hst:st≤hs.length)(hin:InF R st hs.length){c:D}(hc:Yr c=some (hs.map hdD)) :
 ∃(w:Bool) (pl:List D),Yay [Yx R,c,.int st]=some (outD w (.tup pl))∧Ybp [outD w (.tup pl),Yx R,.tup (hs.map hdD),.int st]=some (.bl true)∧(w=true→∃b is js,Yua R (ofH hs st true) (ofH hs st false) b is js)∧(w=false→∃first rows,GoodI R (ofH hs st true) (ofH hs st false) first rows):=by
 rcases Yqm hc hl hst hin with⟨b,is,js,hW,h⟩ | ⟨first,rows,hG,h⟩
 ·exact⟨true,_,h,Ymz true (Yub _ _ _) (Yr1 _ _ _) ⟨fun _=>Yud hl hst hin hW,fun z=>(nomatch z)⟩,fun _=>⟨b,is,js,hW⟩,fun z=>(nomatch z)⟩
 ·exact⟨false,_,h,Ymz false (Yuc _ _) (Yr2 _ _) ⟨fun z=>(nomatch z),fun _=>Yr3 hl hst hin hG⟩,fun z=>(nomatch z),fun _=>⟨first,rows,hG⟩⟩
theorem y5n(ns:List Int){bk hh:D}{st:Int}(h:Yc7 [.str "ifs",.scr ns]=some (.lst [bk,hh,.int st])) :
 y19 [some (.sh (.scr ns)),none,none,none,none,none,none,none]=Yoe [some (.sh (.scr ns)),some (.sh bk),some (.sh hh),some (.sh (.int st)),none,none,none,none]:=by
 simp[y19,h]
theorem y5o(a0:Option B){bk hh fo:D}{st:Int}(h:Yay [bk,hh,.int st]=some fo) :
 Yoe [a0,some (.sh bk),some (.sh hh),some (.sh (.int st)),none,none,none,none]=Yod [a0,some (.sh bk),some (.sh hh),some (.sh (.int st)),some (.sh fo),none,none,none]:=by
 simp[Yoe,h]
theorem y5p(a0:Option B){bk hh fo:D}{st:Int}(h:Ybp [fo,bk,hh,.int st]=some (.bl true)) :
 Yod [a0,some (.sh bk),some (.sh hh),some (.sh (.int st)),some (.sh fo),none,none,none]=Yoc [a0,some (.sh bk),some (.sh hh),some (.sh (.int st)),some (.sh fo),none,none,none]:=by
 simp[Yod,h]
theorem y5q(ns:List Int){x3 v:Int}(a1 a2 a3 a4:Option B)(c3:Ya5 [.scr ns,.int 3]=some (.int x3))(h:Yaw [.int x3,.int 2049848353892358983]=some (.int v)) :
 Yoc [some (.sh (.scr ns)),a1,a2,a3,a4,none,none,none]=Yob [some (.sh (.scr ns)),a1,a2,a3,a4,some (.sh (.int v)),none,none]:=by
 simp[Yoc,c3,h]
theorem y5r{R M:List IfR}(hR:R.length≤100)(hM:M.length≤100){hh:D}{st v:Int}(a0 a4:Option B)(h:Ya2 [.tup (R.map ifD),hh,.int st,.int v]=some (.tup (M.map ifD))) :
 Yob [a0,some (.sh (Yx R)),some (.sh hh),some (.sh (.int st)),a4,some (.sh (.int v)),none,none]=Yoa [a0,some (.sh (Yx R)),some (.sh hh),some (.sh (.int st)),a4,some (.sh (.int v)),some (.sh (Yx (M++R))),none]:=by
 have hbi:=Yfu R
 have htu:Yx (M++R)=.tup [.str "ifs",.tup (M.map ifD++R.map ifD)]:=by
  unfold Yx
  rw[List.map_append]
 have hcat:Ypk (.tup (M.map ifD)) (.tup (R.map ifD))=some (.tup (M.map ifD++R.map ifD)):=if_pos (by simp;omega)
 rw[htu]
 generalize M.map ifD=MM at *
 generalize R.map ifD=RR at *
 generalize Yx R=bk at *
 simp[Yob,hbi,h,hcat]
theorem y5s(a0 a1 a4 a5:Option B){tb fo:D}{hs:List Bool}{st:Int}(h:Yay [tb,.lst (hs.map hdD),.int st]=some fo) :
 Yoa [a0,a1,some (.sh (.tup (hs.map hdD))),some (.sh (.int st)),a4,a5,some (.sh tb),none]=Yn9 [a0,a1,some (.sh (.tup (hs.map hdD))),some (.sh (.int st)),a4,a5,some (.sh tb),some (.sh fo)]:=by
 have hlf:Yfe [.tup (hs.map hdD)]=some (hs.map hdD):=rfl
 generalize hs.map hdD=HS at *
 simp[Yoa,hlf,h]
theorem y5t(a0 a1 a5:Option B){tb hh p1 p2:D}{st:Int}{w:Bool}(h:Ybp [outD w p2,tb,hh,.int st]=some (.bl true)) :
 Yn9 [a0,a1,some (.sh hh),some (.sh (.int st)),some (.sh (outD w p1)),a5,some (.sh tb),some (.sh (outD w p2))]=some (.rt (.bl true)):=by
 have hi:∀p:D,Yr (outD w p)=some [.str (if w=true then Str.ofString "storm" else Str.ofString "keeper"),p]:=fun _=>rfl
 have he:eqM false (.str (if w=true then Str.ofString "storm" else Str.ofString "keeper")) (.str (if w=true then Str.ofString "storm" else Str.ofString "keeper"))=some true:=by
  cases w
  ·exact Yil "keeper" false
  ·exact Yil "storm" false
 have h1:=hi p1
 have h2:=hi p2
 generalize D.str (if w=true then Str.ofString "storm" else Str.ofString "keeper")=sw at *
 generalize outD w p1=o1 at *
 generalize outD w p2=o2 at *
 simp[Yn9,h,h1,h2,he]
theorem law_true(ns:List Int)(hns:ns.length≤63):Yrs [.scr ns]=some (.bl true):=by
 rw[Yrs,Yac (by rfl)]
 have c3:=Yqb ns 3
 generalize ns.getD 3 0=x3 at c3
 simp at c3
 obtain⟨R,hs,st,hRl,hl,hst,hin,hdr⟩:=Yqo ns hns
 obtain⟨v,_,hv⟩:=Yog x3 2049848353892358983
 obtain⟨M,hMi,hMf,hMl,hfo⟩:=Ylm (R:=R) (by omega) hl hst hin (v:=v)
 have hin2:InF (M++R) st hs.length:=fun q hq=>(qu hq).elim (hMi q) (hin q)
 have hto:∀A,(∀q∈R,Hl A q)→∀q∈M++R,Hl A q:=fun A hA q hq=>(qu hq).elim (hMf A hA q) (hA q)
 have hfrom:∀A,(∀q∈M++R,Hl A q)→∀q∈R,Hl A q:=fun A hA q hq=>hA q (List.mem_append.mpr (.inr hq))
 obtain⟨w1,p1,o1,g1,s1,k1⟩:=Yxf (R:=R) hl (by omega) hin (c:=.tup (hs.map hdD)) rfl
 obtain⟨w2,p2,o2,g2,s2,k2⟩:=Yxf (R:=M++R) hl (by omega) hin2 (c:=.lst (hs.map hdD)) rfl
 have hw:w2=w1:=by
  cases w1 with
  | true=>
    cases w2 with
    | true=>rfl
    | false=>
      obtain⟨b,is,js,hW⟩:=s1 rfl
      obtain⟨first,rows,hG⟩:=k2 rfl
      exact(never hG hfrom Yol hW.1).elim
  | false=>
    cases w2 with
    | false=>rfl
    | true=>
      obtain⟨b,is,js,hW⟩:=s2 rfl
      obtain⟨first,rows,hG⟩:=k1 rfl
      exact(never hG hto Yol hW.1).elim
 subst hw
 have hst0:Yv 8 [D.scr ns]=[some (.sh (.scr ns)),none,none,none,none,none,none,none]:=rfl
 rw[hst0,y5n ns hdr,y5o _ o1,y5p _ g1,y5q ns _ _ _ _ c3 hv,y5r (by omega) hMl _ _ hfo,y5s _ _ _ _ o2,y5t _ _ _ g2]
 rfl
end Lw
namespace Op
open PySem PySem.W PyProof.Rows PySem.Calls
set_option maxRecDepth 100000
noncomputable abbrev pg:Program:=PySem.Challenge.pw_duskbook_k46_ifs_won
noncomputable abbrev en(P:Params)(x:Str)(t:Nat)(v:Value):DictEntry:=⟨PyData.keyHash P x,.str x t,v⟩
noncomputable abbrev fn(name qual:Str)(s:Stmt)(dV kV doc pm:Value)(an:Option Addr)(cdv ct:Value)(g b:Nat):Data:=.func ⟨name,qual,L2.defArgs s,.stmts (L2.defBody s),L2.defScope s,g,[],dV,kV,doc,pm,an,cdv,ct,b⟩
noncomputable abbrev tu(l:List Value):Obj:=⟨.type "tuple",none,.seq ⟨l⟩ 0,#[]⟩
noncomputable abbrev fl:Obj:=⟨.none,none,.fields #[],#[]⟩
noncomputable abbrev oZ(x:Str)(i:Nat):Obj:=⟨.none,none,fn x x (Lw.top i) .none .none .none .none none .none .none 0 0,#[]⟩
noncomputable abbrev oF(x:Str)(i:Nat)(pm:Value)(c:Nat):Obj:=⟨.type "function",none,.func (fnOf x x (L2.defArgs (Lw.top i)) (L2.defBody (Lw.top i)) (L2.defScope (Lw.top i)) .none .none .none pm none (.ref c) .none),#[]⟩
noncomputable abbrev oC(x:Str)(t l n b:Nat)(u v:Value)(c k e:Nat):Obj:=⟨.type "code",none,.fields #[.str x t,.str x (t+1),.str "/claim/cut.py" (t+2),.int (.ofNat l) 0,.int (.ofNat n) 0,.int 0 0,.int 0 0,.int 3 0,.ref b,.bool true,.int (.ofNat k) 0,.ref (b+1),.none,u,v,.ref c,.int (.ofNat e) 0,.int (.ofNat l) 0,.str "/claim/cut.py" (e+1)],#[]⟩
noncomputable abbrev p0:Value:=(.str "duskbook.books" 187)
noncomputable abbrev p1:Value:=(.str "duskbook.deriving" 250)
noncomputable abbrev p2:Value:=(.str "duskbook.adding" 309)
noncomputable abbrev p3:Value:=(.str "duskbook.roads" 329)
noncomputable abbrev p4:Value:=(.str "duskbook.blends" 353)
noncomputable abbrev p5:Value:=(.str "duskbook.parts" 380)
noncomputable abbrev p6:Value:=(.str "duskbook.keeping" 395)
noncomputable abbrev p7:Value:=(.str "duskbook.ifways" 500)
noncomputable abbrev p8:Value:=(.str "duskbook.storming" 550)
noncomputable abbrev p9:Value:=(.str "duskbook.checking" 664)
noncomputable abbrev p10:Value:=(.str "law_duskbook_k46_ifs_won" 677)
noncomputable def et0(P:Params):List DictEntry:=[en P "__doc__" 166 .none,en P "__package__" 167 .none,en P "__loader__" 168 (.builtin "__main__.__loader__#opaque"),en P "__spec__" 169 .none,en P "__annotations__" 170 (.ref 6),en P "__builtins__" 171 (.ref 4),en P "__file__" 173 (.str "/claim/cut.py" 172),en P "__cached__" 174 .none,en P "either_holds" 194 (.ref 19),en P "sum_holds" 200 (.ref 24),en P "if_holds" 206 (.ref 29),en P "rule_holds" 215 (.ref 36),en P "broken_rules" 221 (.ref 41),en P "holds" 229 (.ref 48),en P "beacons_in" 235 (.ref 53),en P "is_void" 243 (.ref 60),en P "without" 249 (.ref 65),en P "is_place" 259 (.ref 72),en P "body_is_known" 265 (.ref 77),en P "is_step" 275 (.ref 84),en P "is_derivation" 286 (.ref 91),en P "derived" 292 (.ref 96),en P "step_to_more" 302 (.ref 103),en P "derived_in_full" 308 (.ref 108),en P "both_added" 318 (.ref 115),en P "added" 328 (.ref 122),en P "contrary" 337 (.ref 129),en P "led_to" 343 (.ref 134),en P "is_road" 352 (.ref 141),en P "EXCHANGED_KINDS" 367 (.ref 142),en P "exchanged_rule" 373 (.ref 147),en P "exchanged" 379 (.ref 152),en P "beacons_with" 387 (.ref 157),en P "is_rising" 394 (.ref 164),en P "rows_by_beacon" 402 (.ref 169),en P "is_plan_row" 410 (.ref 176),en P "come_to" 419 (.ref 183),en P "either_is_kept" 425 (.ref 188),en P "plan_good" 431 (.ref 193),en P "is_sum_row" 437 (.ref 198)]
noncomputable def et1(P:Params):List DictEntry:=[en P "replaced" 448 (.ref 205),en P "sums_good" 454 (.ref 210),en P "are_some_of" 460 (.ref 215),en P "ahead_of" 466 (.ref 220),en P "is_row" 475 (.ref 227),en P "holds_where_lit" 481 (.ref 232),en P "rows_good" 487 (.ref 237),en P "keeper_good" 499 (.ref 244),en P "places_to_none" 511 (.ref 251),en P "places_to_beacon" 517 (.ref 256),en P "some_of" 523 (.ref 261),en P "facts_beside" 532 (.ref 268),en P "if_outcome" 549 (.ref 275),en P "is_broken" 557 (.ref 280),en P "lead_there_and_back" 566 (.ref 287),en P "clash_good" 575 (.ref 294),en P "cross_good" 584 (.ref 301),en P "late_good" 595 (.ref 308),en P "odd_good" 601 (.ref 313),en P "first_ones" 607 (.ref 318),en P "is_first_part" 617 (.ref 325),en P "is_last_part" 629 (.ref 332),en P "lone_good" 641 (.ref 339),en P "either_paper_good" 651 (.ref 346),en P "storm_good" 663 (.ref 353),en P "good" 676 (.ref 360),en P "_law_cell" 686 (.ref 367),en P "_law_mixed" 694 (.ref 374),en P "_law_hands" 700 (.ref 379),en P "_law_own" 706 (.ref 384),en P "_law_rule" 712 (.ref 389),en P "_law_plain" 718 (.ref 394),en P "_law_truths" 724 (.ref 399),en P "_law_good" 734 (.ref 406),en P "_law_drawn" 740 (.ref 411),en P "_law_following" 746 (.ref 416),en P "law" 760 (.ref 423)]
noncomputable def et(P:Params):List DictEntry:=et0 P++et1 P
noncomputable abbrev ns(P:Params)(x:DictEntry)(n k:Nat):Obj:=⟨.type "dict",none,.dict ⟨x::(et P).take n⟩ k,#[]⟩
noncomputable def ff0:List Value:=[(.int (2) 0),(.int (0) 0),(.ref 18),(.int (4) 0),(.int (0) 0),(.ref 23),(.int (7) 0),(.int (0) 0),(.ref 28),(.int (11) 0),(.int (0) 0),(.ref 35),(.int (17) 0),(.int (0) 0),(.ref 40),(.int (19) 0),(.int (0) 0),(.ref 47),(.int (21) 0),(.int (0) 0),(.ref 52),(.int (27) 0),(.int (0) 0),(.ref 59),(.int (29) 0),(.int (0) 0),(.ref 64),(.int (32) 0),(.int (0) 0),(.ref 71),(.int (34) 0),(.int (0) 0),(.ref 76),(.int (36) 0),(.int (0) 0),(.ref 83),(.int (41) 0),(.int (0) 0),(.ref 90),(.int (48) 0)]
noncomputable def ff1:List Value:=[(.int (0) 0),(.ref 95),(.int (51) 0),(.int (0) 0),(.ref 102),(.int (56) 0),(.int (0) 0),(.ref 107),(.int (66) 0),(.int (0) 0),(.ref 114),(.int (68) 0),(.int (0) 0),(.ref 121),(.int (74) 0),(.int (0) 0),(.ref 128),(.int (76) 0),(.int (0) 0),(.ref 133),(.int (84) 0),(.int (0) 0),(.ref 140),(.int (91) 0),(.int (0) 0),(.ref 146),(.int (97) 0),(.int (0) 0),(.ref 151),(.int (101) 0),(.int (0) 0),(.ref 156),(.int (103) 0),(.int (0) 0),(.ref 163),(.int (106) 0),(.int (0) 0),(.ref 168),(.int (108) 0),(.int (0) 0)]
noncomputable def ff2:List Value:=[(.ref 175),(.int (110) 0),(.int (0) 0),(.ref 182),(.int (115) 0),(.int (0) 0),(.ref 187),(.int (118) 0),(.int (0) 0),(.ref 192),(.int (123) 0),(.int (0) 0),(.ref 197),(.int (125) 0),(.int (0) 0),(.ref 204),(.int (131) 0),(.int (0) 0),(.ref 209),(.int (136) 0),(.int (0) 0),(.ref 214),(.int (138) 0),(.int (0) 0),(.ref 219),(.int (140) 0),(.int (0) 0),(.ref 226),(.int (142) 0),(.int (0) 0),(.ref 231),(.int (144) 0),(.int (0) 0),(.ref 236),(.int (151) 0),(.int (0) 0),(.ref 243),(.int (164) 0),(.int (0) 0),(.ref 250)]
noncomputable def ff3:List Value:=[(.int (169) 0),(.int (0) 0),(.ref 255),(.int (174) 0),(.int (0) 0),(.ref 260),(.int (176) 0),(.int (0) 0),(.ref 267),(.int (178) 0),(.int (0) 0),(.ref 274),(.int (195) 0),(.int (0) 0),(.ref 279),(.int (197) 0),(.int (0) 0),(.ref 286),(.int (201) 0),(.int (0) 0),(.ref 293),(.int (203) 0),(.int (0) 0),(.ref 300),(.int (207) 0),(.int (0) 0),(.ref 307),(.int (211) 0),(.int (0) 0),(.ref 312),(.int (218) 0),(.int (0) 0),(.ref 317),(.int (223) 0),(.int (0) 0),(.ref 324),(.int (227) 0),(.int (0) 0),(.ref 331),(.int (233) 0)]
noncomputable def ff4:List Value:=[(.int (0) 0),(.ref 338),(.int (239) 0),(.int (0) 0),(.ref 345),(.int (247) 0),(.int (0) 0),(.ref 352),(.int (262) 0),(.int (0) 0),(.ref 359),(.int (267) 0),(.int (0) 0),(.ref 366),(.int (271) 0),(.int (0) 0),(.ref 373),(.int (273) 0),(.int (0) 0),(.ref 378),(.int (276) 0),(.int (0) 0),(.ref 383),(.int (278) 0),(.int (0) 0),(.ref 388),(.int (298) 0),(.int (0) 0),(.ref 393),(.int (302) 0),(.int (0) 0),(.ref 398),(.int (308) 0),(.int (0) 0),(.ref 405),(.int (314) 0),(.int (0) 0),(.ref 410),(.int (325) 0),(.int (0) 0)]
noncomputable def ff5:List Value:=[(.ref 415),(.int (336) 0),(.int (0) 0),(.ref 422)]
noncomputable def ff:List Value:=ff0++ff1++ff2++ff3++ff4++ff5
noncomputable abbrev ft(n:Nat):Obj:=⟨.none,none,.fields ⟨ff.take n⟩,#[]⟩
noncomputable abbrev dF(x:Str)(i l n t b:Nat)(pm:Value)(k:Nat):List Obj:=[tu [],fl,oZ x i,oC x t l n b .none .none (b+2) k (t+3),oF x i pm (b+3)]
noncomputable abbrev dG(x:Str)(i l n t b:Nat)(pm:Value)(k:Nat)(u:List Value):List Obj:=[tu [],fl,tu u,tu [],oZ x i,oC x t l n b (.ref (b+2)) (.ref (b+3)) (b+4) k (t+3+u.length),oF x i pm (b+5)]
noncomputable def al0(P:Params):List Obj:=[boot_o_0 P,boot_o_1 P,boot_o_2 P,ns P (en P "__name__" 165 (.str "law_duskbook_k46_ifs_won" 677)) 77 78,boot_o_4 P,boot_o_5 P,boot_o_6 P,boot_o_7 P,boot_o_8 P,boot_o_9 P,boot_o_10 P,tu [],ft 204,⟨(.type "code"),none,(.fields #[(.str "<module>" 182),(.str "<module>" 183),(.str "/claim/cut.py" 184),(.int (1) 0),(.int (0) 0),(.int (0) 0),(.int (0) 0),(.int (0) 0),(.ref 11),(.bool false),(.int (181) 0),(.ref 12),.none,.none,.none,.none,(.int (185) 0),(.int (1) 0),(.str "/claim/cut.py" 186)]),#[]⟩,⟨(.type "frame"),none,.plain,#[(some (.ref 13)),(some (.ref 3)),(some (.ref 3)),none,(some (.str "__main__" 164)),none,(some (.ref 0))]⟩]++(dF "either_holds" 1 2 2 189 15 p0 181++(dF "sum_holds" 2 4 2 195 20 p0 181++(dF "if_holds" 3 7 3 201 25 p0 181++(dG "rule_holds" 4 11 3 207 30 p0 181 [(.str "kind" 210),(.str "rule" 211),(.str "evening" 212)]++(dF "broken_rules" 5 17 2 216 37 p0 181++(dG "holds" 6 19 2 222 42 p0 181 [(.str "book" 225),(.str "evening" 226)]++(dF "beacons_in" 7 21 2 230 49 p0 181++(dG "is_void" 8 27 2 236 54 p0 181 [(.str "kind" 239),(.str "rule" 240)]++(dF "without" 9 29 2 244 61 p0 181++(dG "is_place" 11 32 2 252 66 p1 181 [(.str "book" 255),(.str "place" 256)]++(dF "body_is_known" 12 34 2 260 73 p1 181++(dG "is_step" 13 36 3 266 78 p1 181 [(.str "book" 269),(.str "known" 270),(.str "place" 271),(.str "rule" 272)]++(dG "is_derivation" 14 41 3 276 85 p1 181 [(.str "book" 279),(.str "facts" 280),(.str "places" 281),(.str "known" 282),(.str "place" 283)]++(dF "derived" 15 48 3 287 92 p1 181++(dG "step_to_more" 16 51 2 293 97 p1 181 [(.str "book" 296),(.str "known" 297),(.str "place" 298),(.str "rule" 299)]++(dF "derived_in_full" 17 56 2 303 104 p1 181++(dG "both_added" 19 66 2 311 109 p2 181 [(.str "rule" 314),(.str "other" 315)]++(dG "added" 20 68 2 319 116 p2 181 [(.str "book" 322),(.str "places" 323),(.str "whole" 324),(.str "place" 325)]++(dG "contrary" 22 74 1 331 123 p3 181 [(.str "saying" 334)]++(dF "led_to" 23 76 2 338 130 p3 181++(dG "is_road" 24 84 2 344 135 p3 181 [(.str "book" 347),(.str "road" 348),(.str "place" 349)]++([⟨(.type "dict"),none,(.dict #[en P "eithers" 355 (.str "eithers" 356),en P "sums" 357 (.str "sums" 358),en P "ifs" 359 (.str "nots" 360),en P "nots" 361 (.str "ifs" 362)] 4),#[]⟩]++(dF "exchanged_rule" 27 91 2 368 143 p4 181++(dF "exchanged" 28 97 1 374 148 p4 181))))))))))))))))))))))))
noncomputable def al1(P:Params):List Obj:=dF "beacons_with" 30 101 3 382 153 p5 181++(dG "is_rising" 31 103 1 388 158 p5 181 [(.str "numbers" 391)]++(dF "rows_by_beacon" 33 106 1 397 165 p6 181++(dG "is_plan_row" 34 108 2 403 170 p6 181 [(.str "row" 406),(.str "storms" 407)]++(dG "come_to" 35 110 2 411 177 p6 181 [(.str "saying" 414),(.str "plan" 415),(.str "row" 416)]++(dF "either_is_kept" 36 115 2 420 184 p6 181++(dF "plan_good" 37 118 4 426 189 p6 181++(dF "is_sum_row" 38 123 2 432 194 p6 181++(dG "replaced" 39 125 2 438 199 p6 181 [(.str "rule" 441),(.str "sums" 442),(.str "whole" 443),(.str "beacon" 444),(.str "row" 445)]++(dF "sums_good" 40 131 4 449 206 p6 181++(dF "are_some_of" 41 136 2 455 211 p6 181++(dF "ahead_of" 42 138 2 461 216 p6 181++(dG "is_row" 43 140 3 467 221 p6 181 [(.str "row" 470),(.str "first" 471),(.str "keepers" 472)]++(dF "holds_where_lit" 44 142 3 476 228 p6 181++(dF "rows_good" 45 144 6 482 233 p6 181++(dG "keeper_good" 46 151 4 488 238 p6 181 [(.str "paper" 491),(.str "book" 492),(.str "hands" 493),(.str "start" 494),(.str "keepers" 495),(.str "storms" 496)]++(dG "places_to_none" 48 164 2 502 245 p7 181 [(.str "book" 505),(.str "full" 506),(.str "place" 507),(.str "rule" 508)]++(dF "places_to_beacon" 49 169 3 512 252 p7 181++(dF "some_of" 50 174 2 518 257 p7 181++(dG "facts_beside" 51 176 3 524 262 p7 181 [(.str "beacon" 527),(.str "storms" 528),(.str "first" 529)]++(dG "if_outcome" 52 178 3 533 269 p7 181 [(.str "book" 536),(.str "hands" 537),(.str "start" 538),(.str "keepers" 539),(.str "storms" 540),(.str "whole" 541),(.str "places" 542),(.str "first" 543),(.str "rows" 544),(.str "beacon" 545),(.str "full" 546)]++(dF "is_broken" 54 195 1 552 276 p8 181++(dG "lead_there_and_back" 55 197 3 558 281 p8 181 [(.str "book" 561),(.str "road" 562),(.str "other" 563)]++(dG "clash_good" 56 201 3 567 288 p8 181 [(.str "road" 570),(.str "other" 571),(.str "book" 572)]++(dG "cross_good" 57 203 3 576 295 p8 181 [(.str "road" 579),(.str "book" 580),(.str "storms" 581)]))))))))))))))))))))))))
noncomputable def al2(P:Params):List Obj:=dG "late_good" 58 207 5 585 302 p8 181 [(.str "road" 588),(.str "other" 589),(.str "book" 590),(.str "keepers" 591),(.str "storms" 592)]++(dF "odd_good" 59 211 3 596 309 p8 181++(dF "first_ones" 60 218 4 602 314 p8 181++(dG "is_first_part" 61 223 4 608 319 p8 181 [(.str "beacon" 611),(.str "places" 612),(.str "book" 613),(.str "storms" 614)]++(dG "is_last_part" 62 227 4 618 326 p8 181 [(.str "beacon" 621),(.str "places" 622),(.str "book" 623),(.str "facts" 624),(.str "rule" 625),(.str "known" 626)]++(dG "lone_good" 63 233 4 630 333 p8 181 [(.str "paper" 633),(.str "book" 634),(.str "keepers" 635),(.str "storms" 636),(.str "beacon" 637),(.str "facts" 638)]++(dG "either_paper_good" 64 239 4 642 340 p8 181 [(.str "paper" 645),(.str "book" 646),(.str "keepers" 647),(.str "storms" 648)]++(dG "storm_good" 65 247 4 652 347 p8 181 [(.str "paper" 655),(.str "book" 656),(.str "hands" 657),(.str "start" 658),(.str "keepers" 659),(.str "storms" 660)]++(dG "good" 67 262 5 666 354 p9 181 [(.str "paper" 669),(.str "book" 670),(.str "hands" 671),(.str "start" 672),(.str "hand" 673)]++(dG "_law_cell" 69 267 2 679 361 p10 181 [(.str "script" 682),(.str "k" 683)]++(dG "_law_mixed" 70 271 2 687 368 p10 181 [(.str "cell" 690),(.str "by" 691)]++(dF "_law_hands" 71 273 2 695 375 p10 181++(dF "_law_own" 72 276 3 701 380 p10 181++(dF "_law_rule" 73 278 4 707 385 p10 181++(dF "_law_plain" 74 298 1 713 390 p10 181++(dF "_law_truths" 75 302 1 719 395 p10 181++(dG "_law_good" 76 308 4 725 400 p10 181 [(.str "found" 728),(.str "book" 729),(.str "hands" 730),(.str "start" 731)]++(dF "_law_drawn" 77 314 2 735 407 p10 181++(dF "_law_following" 78 325 4 741 412 p10 181++(dG "law" 79 336 1 747 417 p10 181 [(.str "script" 750),(.str "book" 751),(.str "hands" 752),(.str "start" 753),(.str "found" 754),(.str "pick" 755),(.str "more" 756),(.str "again" 757)])))))))))))))))))))
noncomputable def al(P:Params):List Obj:=al0 P++al1 P++al2 P
noncomputable def upd(l:List (Nat × Obj))(xs:List Obj):List Obj:=l.foldl (fun xs p=>xs.set p.1 p.2) xs
noncomputable def ev:List Obj→List Obj
 | []=>[]
 | [x]=>[x]
 | x::_::r=>x::ev r
noncomputable def bt:Nat→List Obj→BT
 | 0,_=>.nil
 | _+1,[]=>.nil
 | n+1,x::xs=>.node x (bt n (ev xs)) (bt n (ev xs.tail))
noncomputable abbrev bd:List Stmt:=behindTheImports pg
noncomputable abbrev sl(i n:Nat):List Stmt:=(bd.drop i).take n
noncomputable abbrev env:Env:={ scope:=pg.main.scope,locals:=mainNs,globals:=mainNs,cells:=[],code:=(.ref 13),frame:=some 14 }
noncomputable abbrev cE:Code:=.body bd env
noncomputable abbrev B:List Frame:=[topFrame ⟨0,0,0,0⟩]
noncomputable abbrev ss(n:Nat)(l:Params→List (Nat × Obj))(t:Nat)(w:World)(os:OsState):SharedT:=⟨bt 12 (upd (l w.params) ((al w.params).take n)),n,{},.mk [],boot_drawn,t,os⟩
noncomputable def h0(P:Params):Heap:=⟨⟨upd [(3,boot_o_3 P),(12,fl)] ((al P).take 15)⟩,{}⟩
noncomputable abbrev s0(w:World)(os:OsState):Shared:=⟨h0 w.params,.mk [],boot_drawn,187,os⟩
noncomputable abbrev s1:World→OsState→SharedT:=ss 15 (fun P=>[(3,boot_o_3 P),(12,fl)]) 187
noncomputable abbrev s2:World→OsState→SharedT:=ss 92 (fun P=>[(3,ns P (en P "__name__" 165 (.str "duskbook.deriving" 250)) 21 22),(12,ft 39)]) 287
noncomputable abbrev s3:World→OsState→SharedT:=ss 153 (fun P=>[(3,ns P (en P "__name__" 165 (.str "duskbook.parts" 380)) 32 33),(12,ft 69)]) 382
noncomputable abbrev s4:World→OsState→SharedT:=ss 233 (fun P=>[(3,ns P (en P "__name__" 165 (.str "duskbook.keeping" 395)) 46 47),(12,ft 111)]) 482
noncomputable abbrev s5:World→OsState→SharedT:=ss 309 (fun P=>[(3,ns P (en P "__name__" 165 (.str "duskbook.storming" 550)) 58 59),(12,ft 147)]) 596
noncomputable abbrev s6:World→OsState→SharedT:=ss 385 (fun P=>[(3,ns P (en P "__name__" 165 (.str "law_duskbook_k46_ifs_won" 677)) 70 71),(12,ft 183)]) 707
noncomputable abbrev s7:World→OsState→SharedT:=ss 424 (fun P=>[]) 761
noncomputable def h8(P:Params):Heap:=⟨⟨upd [] ((al P).take 424)⟩,{}⟩
noncomputable abbrev s8(w:World)(os:OsState):Shared:=⟨h8 w.params,.mk [],boot_drawn,761,os⟩
noncomputable abbrev sz(w:World)(os:OsState):Shared:=⟨boot_heap w.params,.mk [],boot_drawn,boot_toks,os⟩
theorem e0:∀w:World,(fun os=>topGo treeTable pg w 11 (some (.ref 6)) 12 (sz w os) (topStub pg))=fun os=>some (s0 w os,⟨denote treeTable cE,cE,⟨0,0,0,0⟩,B⟩):=by
 rw[W.Fast.te15667345088766844465,W.Fast.te14364793385576792824,W.Fast.te11892475500146522536];intro w;kernel_rfl
theorem e1:∀w:World,(fun os=>segRun treeTable pg w 11 (some (.ref 6)) 1 1 (s0 w os) (blockOf bd env cE ⟨0,0,0,0⟩ B))=fun os=>some (.next,(s1 w os).abs,cE,⟨0,0,0,0⟩):=by
 rw[W.Fast.te14374325043358763698,W.Fast.te14364793385576792824];intro w;kernel_rfl
theorem e2:∀w:World,(fun os=>segRunT treeTable pg w 11 (some (.ref 6)) 1 387 (s1 w os) (piecesOf (sl 0 15) env cE ⟨0,0,0,0⟩ B))=fun os=>some (.next,s2 w os,cE,⟨41,0,47,15⟩):=by
 rw[W.Fast.te10110043849684766642,W.Fast.te14364793385576792824];intro w;kernel_rfl
theorem e3:∀w:World,(fun os=>segRunT treeTable pg w 11 (some (.ref 6)) 1 391 (s2 w os) (piecesOf (sl 15 15) env cE ⟨41,0,47,15⟩ B))=fun os=>some (.next,s3 w os,cE,⟨100,0,100,8⟩):=by
 rw[W.Fast.te10110043849684766642,W.Fast.te14364793385576792824];refine byRow2 "special-get-raises" ?_ ?_<;>(intro w;kernel_rfl)
theorem e4:∀w:World,(fun os=>segRunT treeTable pg w 11 (some (.ref 6)) 1 398 (s3 w os) (piecesOf (sl 30 15) env cE ⟨100,0,100,8⟩ B))=fun os=>some (.next,s4 w os,cE,⟨142,0,143,66⟩):=by
 rw[W.Fast.te10110043849684766642,W.Fast.te14364793385576792824];intro w;kernel_rfl
theorem e5:∀w:World,(fun os=>segRunT treeTable pg w 11 (some (.ref 6)) 1 385 (s4 w os) (piecesOf (sl 45 14) env cE ⟨142,0,143,66⟩ B))=fun os=>some (.next,s5 w os,cE,⟨207,0,210,89⟩):=by
 rw[W.Fast.te10110043849684766642,W.Fast.te14364793385576792824];intro w;kernel_rfl
theorem e6:∀w:World,(fun os=>segRunT treeTable pg w 11 (some (.ref 6)) 1 382 (s5 w os) (piecesOf (sl 59 14) env cE ⟨207,0,210,89⟩ B))=fun os=>some (.next,s6 w os,cE,⟨276,0,277,83⟩):=by
 rw[W.Fast.te10110043849684766642,W.Fast.te14364793385576792824];intro w;kernel_rfl
theorem e7:∀w:World,(fun os=>segRunT treeTable pg w 11 (some (.ref 6)) 1 199 (s6 w os) (piecesOf (sl 73 7) env cE ⟨276,0,277,83⟩ B))=fun os=>some (.next,s7 w os,cE,⟨336,0,344,72⟩):=by
 rw[W.Fast.te10110043849684766642,W.Fast.te14364793385576792824];intro w;kernel_rfl
theorem e8:∀w:World,(fun os=>topRun treeTable pg w 11 (some (.ref 6)) 2 (s7 w os).abs ⟨doneF .next,cE,⟨336,0,344,72⟩,B⟩)=fun os=>some (s8 w os):=by
 rw[W.Fast.te14082659384304107361,W.Fast.te14364793385576792824];intro w;kernel_rfl
noncomputable abbrev m8:Nat:=2
noncomputable abbrev t8:List Stmt:=[]
noncomputable abbrev R(w:World)(os:OsState)(m:Nat)(s:Shared)(t:List Stmt)(p:Pos):Prop:=topRun treeTable pg w 11 (some (.ref 6)) m s (restOf t env cE p B)=some (s8 w os)
theorem r8(w:World)(os:OsState):R w os m8 (s7 w os).abs t8 ⟨336,0,344,72⟩:=congrFun (e8 w) os
noncomputable abbrev m7:Nat:=199+m8
noncomputable abbrev t7:List Stmt:=sl 73 7++t8
theorem r7(w:World)(os:OsState):R w os m7 (s6 w os).abs t7 ⟨276,0,277,83⟩:=piece_app (segRun_of (congrFun (e7 w) os)) (r8 w os)
noncomputable abbrev m6:Nat:=382+m7
noncomputable abbrev t6:List Stmt:=sl 59 14++t7
theorem r6(w:World)(os:OsState):R w os m6 (s5 w os).abs t6 ⟨207,0,210,89⟩:=piece_app (segRun_of (congrFun (e6 w) os)) (r7 w os)
noncomputable abbrev m5:Nat:=385+m6
noncomputable abbrev t5:List Stmt:=sl 45 14++t6
theorem r5(w:World)(os:OsState):R w os m5 (s4 w os).abs t5 ⟨142,0,143,66⟩:=piece_app (segRun_of (congrFun (e5 w) os)) (r6 w os)
noncomputable abbrev m4:Nat:=398+m5
noncomputable abbrev t4:List Stmt:=sl 30 15++t5
theorem r4(w:World)(os:OsState):R w os m4 (s3 w os).abs t4 ⟨100,0,100,8⟩:=piece_app (segRun_of (congrFun (e4 w) os)) (r5 w os)
noncomputable abbrev m3:Nat:=391+m4
noncomputable abbrev t3:List Stmt:=sl 15 15++t4
theorem r3(w:World)(os:OsState):R w os m3 (s2 w os).abs t3 ⟨41,0,47,15⟩:=piece_app (segRun_of (congrFun (e3 w) os)) (r4 w os)
noncomputable abbrev m2:Nat:=387+m3
noncomputable abbrev t2:List Stmt:=sl 0 15++t3
theorem r2(w:World)(os:OsState):R w os m2 (s1 w os).abs t2 ⟨0,0,0,0⟩:=piece_app (segRun_of (congrFun (e2 w) os)) (r3 w os)
theorem tb:bd=t2:=by kernel_rfl
theorem run(w:World)(os:OsState):topRun treeTable pg w 11 (some (.ref 6)) (12+(1+m2)) (sz w os) (topStub pg)=some (s8 w os):=by
 have r:=r2 w os
 unfold R at r
 rw[←congrArg (fun x=>restOf x env cE ⟨0,0,0,0⟩ B) tb]at r
 exact go_top (congrFun (e0 w) os) (piece_block (congrFun (e1 w) os) r)
theorem op:∀w:World,(fencedOpening treeTable pg w 4398).map (fun s=>(s.heap,s.gens,s.drawn,s.toks))=some (boot_heap w.params,Array.mk [],boot_drawn,boot_toks):=
 boot_open (by kernel_rfl) (by decide) (fun s=>by kernel_rfl)
theorem size:∀w:World,((boot_heap w.params).isNs mainGlobals&&(Array.mk []:Array GenState).size==0,(boot_heap w.params).objs.size,(boot_heap w.params).nsMap mainGlobals "__annotations__")=(true,11,(some (.ref 6))):=by
 rw[W.Fast.te8920871248978507458];intro w;kernel_rfl
noncomputable def K(P:Params):Frag:=(nat_lit 3,ns P (en P "__name__" 165 (.str "law_duskbook_k46_ifs_won" 677)) 77 78)::(nat_lit 18,oC "either_holds" 189 2 2 15 .none .none 17 181 192)::(nat_lit 19,oF "either_holds" 1 p0 18)::(nat_lit 23,oC "sum_holds" 195 4 2 20 .none .none 22 181 198)::(nat_lit 24,oF "sum_holds" 2 p0 23)::(nat_lit 28,oC "if_holds" 201 7 3 25 .none .none 27 181 204)::(nat_lit 29,oF "if_holds" 3 p0 28)::(nat_lit 35,oC "rule_holds" 207 11 3 30 (.ref 32) (.ref 33) 34 181 213)::(nat_lit 36,oF "rule_holds" 4 p0 35)::(nat_lit 40,oC "broken_rules" 216 17 2 37 .none .none 39 181 219)::(nat_lit 41,oF "broken_rules" 5 p0 40)::(nat_lit 47,oC "holds" 222 19 2 42 (.ref 44) (.ref 45) 46 181 227)::(nat_lit 48,oF "holds" 6 p0 47)::(nat_lit 64,oC "without" 244 29 2 61 .none .none 63 181 247)::(nat_lit 65,oF "without" 9 p0 64)::(nat_lit 71,oC "is_place" 252 32 2 66 (.ref 68) (.ref 69) 70 181 257)::(nat_lit 72,oF "is_place" 11 p1 71)::(nat_lit 76,oC "body_is_known" 260 34 2 73 .none .none 75 181 263)::(nat_lit 77,oF "body_is_known" 12 p1 76)::(nat_lit 83,oC "is_step" 266 36 3 78 (.ref 80) (.ref 81) 82 181 273)::(nat_lit 84,oF "is_step" 13 p1 83)::(nat_lit 90,oC "is_derivation" 276 41 3 85 (.ref 87) (.ref 88) 89 181 284)::(nat_lit 91,oF "is_derivation" 14 p1 90)::(nat_lit 95,oC "derived" 287 48 3 92 .none .none 94 181 290)::(nat_lit 96,oF "derived" 15 p1 95)::(nat_lit 102,oC "step_to_more" 293 51 2 97 (.ref 99) (.ref 100) 101 181 300)::(nat_lit 103,oF "step_to_more" 16 p1 102)::(nat_lit 107,oC "derived_in_full" 303 56 2 104 .none .none 106 181 306)::(nat_lit 108,oF "derived_in_full" 17 p1 107)::(nat_lit 156,oC "beacons_with" 382 101 3 153 .none .none 155 181 385)::(nat_lit 157,oF "beacons_with" 30 p5 156)::(nat_lit 163,oC "is_rising" 388 103 1 158 (.ref 160) (.ref 161) 162 181 392)::(nat_lit 164,oF "is_rising" 31 p5 163)::(nat_lit 214,oC "are_some_of" 455 136 2 211 .none .none 213 181 458)::(nat_lit 215,oF "are_some_of" 41 p6 214)::(nat_lit 219,oC "ahead_of" 461 138 2 216 .none .none 218 181 464)::(nat_lit 220,oF "ahead_of" 42 p6 219)::(nat_lit 226,oC "is_row" 467 140 3 221 (.ref 223) (.ref 224) 225 181 473)::(nat_lit 227,oF "is_row" 43 p6 226)::(nat_lit 231,oC "holds_where_lit" 476 142 3 228 .none .none 230 181 479)::(nat_lit 232,oF "holds_where_lit" 44 p6 231)::(nat_lit 236,oC "rows_good" 482 144 6 233 .none .none 235 181 485)::(nat_lit 237,oF "rows_good" 45 p6 236)::(nat_lit 243,oC "keeper_good" 488 151 4 238 (.ref 240) (.ref 241) 242 181 497)::(nat_lit 244,oF "keeper_good" 46 p6 243)::(nat_lit 250,oC "places_to_none" 502 164 2 245 (.ref 247) (.ref 248) 249 181 509)::(nat_lit 251,oF "places_to_none" 48 p7 250)::(nat_lit 255,oC "places_to_beacon" 512 169 3 252 .none .none 254 181 515)::(nat_lit 256,oF "places_to_beacon" 49 p7 255)::(nat_lit 260,oC "some_of" 518 174 2 257 .none .none 259 181 521)::(nat_lit 261,oF "some_of" 50 p7 260)::(nat_lit 267,oC "facts_beside" 524 176 3 262 (.ref 264) (.ref 265) 266 181 530)::(nat_lit 268,oF "facts_beside" 51 p7 267)::(nat_lit 274,oC "if_outcome" 533 178 3 269 (.ref 271) (.ref 272) 273 181 547)::(nat_lit 275,oF "if_outcome" 52 p7 274)::(nat_lit 317,oC "first_ones" 602 218 4 314 .none .none 316 181 605)::(nat_lit 318,oF "first_ones" 60 p8 317)::(nat_lit 324,oC "is_first_part" 608 223 4 319 (.ref 321) (.ref 322) 323 181 615)::(nat_lit 325,oF "is_first_part" 61 p8 324)::(nat_lit 331,oC "is_last_part" 618 227 4 326 (.ref 328) (.ref 329) 330 181 627)::(nat_lit 332,oF "is_last_part" 62 p8 331)::(nat_lit 338,oC "lone_good" 630 233 4 333 (.ref 335) (.ref 336) 337 181 639)::(nat_lit 339,oF "lone_good" 63 p8 338)::(nat_lit 352,oC "storm_good" 652 247 4 347 (.ref 349) (.ref 350) 351 181 661)::(nat_lit 353,oF "storm_good" 65 p8 352)::(nat_lit 359,oC "good" 666 262 5 354 (.ref 356) (.ref 357) 358 181 674)::(nat_lit 360,oF "good" 67 p9 359)::(nat_lit 366,oC "_law_cell" 679 267 2 361 (.ref 363) (.ref 364) 365 181 684)::(nat_lit 367,oF "_law_cell" 69 p10 366)::(nat_lit 373,oC "_law_mixed" 687 271 2 368 (.ref 370) (.ref 371) 372 181 692)::(nat_lit 374,oF "_law_mixed" 70 p10 373)::(nat_lit 378,oC "_law_hands" 695 273 2 375 .none .none 377 181 698)::(nat_lit 379,oF "_law_hands" 71 p10 378)::(nat_lit 388,oC "_law_rule" 707 278 4 385 .none .none 387 181 710)::(nat_lit 389,oF "_law_rule" 73 p10 388)::(nat_lit 393,oC "_law_plain" 713 298 1 390 .none .none 392 181 716)::(nat_lit 394,oF "_law_plain" 74 p10 393)::(nat_lit 398,oC "_law_truths" 719 302 1 395 .none .none 397 181 722)::(nat_lit 399,oF "_law_truths" 75 p10 398)::(nat_lit 405,oC "_law_good" 725 308 4 400 (.ref 402) (.ref 403) 404 181 732)::(nat_lit 406,oF "_law_good" 76 p10 405)::(nat_lit 410,oC "_law_drawn" 735 314 2 407 .none .none 409 181 738)::(nat_lit 411,oF "_law_drawn" 77 p10 410)::(nat_lit 415,oC "_law_following" 741 325 4 412 .none .none 414 181 744)::(nat_lit 416,oF "_law_following" 78 p10 415)::(nat_lit 422,oC "law" 747 336 1 417 (.ref 419) (.ref 420) 421 181 758)::(nat_lit 423,oF "law" 79 p10 422)::[]
noncomputable def hk:Hook:=kHook K (3::18::19::23::24::28::29::35::36::40::41::47::48::64::65::71::72::76::77::83::84::90::91::95::96::102::103::107::108::156::157::163::164::214::215::219::220::226::227::231::232::236::237::243::244::250::251::255::256::260::261::267::268::274::275::317::318::324::325::331::332::338::339::352::353::359::360::366::367::373::374::378::379::388::389::393::394::398::399::405::406::410::411::415::416::422::423::[]) (fun _=>by kernel_rfl)
noncomputable def Q:Program:={ pg with main:={ pg.main with body:=[Lw.top 79] } }
noncomputable def ls:List Str:=(["either_holds","sum_holds","if_holds","rule_holds","broken_rules","holds","beacons_in","is_void","without","is_place","body_is_known","is_step","is_derivation","derived","step_to_more","derived_in_full","both_added","added","contrary","led_to","is_road","EXCHANGED_KINDS","exchanged_rule","exchanged","beacons_with","is_rising","rows_by_beacon","is_plan_row","come_to","either_is_kept","plan_good","is_sum_row","replaced","sums_good","are_some_of","ahead_of","is_row","holds_where_lit","rows_good","keeper_good","places_to_none","places_to_beacon","some_of","facts_beside","if_outcome","is_broken","lead_there_and_back","clash_good","cross_good","late_good"]++["odd_good","first_ones","is_first_part","is_last_part","lone_good","either_paper_good","storm_good","good","_law_cell","_law_mixed","_law_hands","_law_own","_law_rule","_law_plain","_law_truths","_law_good","_law_drawn","_law_following"]).map Str.ofString
noncomputable abbrev Xt(s:Shared):Bool:=xlAt Q [] s&&recOk (RowW.records (OpenRow.toRowW PySem.Challenge.rw_duskbook_k46_ifs_won.row)) s
theorem y64:∀w:World,(fun os=>((staticsOk (importedModules pg.main.body) (boot_heap w.params) (h8 w.params)&&namesBound pg (h8 w.params)&&gensDone (s8 w os)&&laidKept (boot_heap w.params) (h8 w.params)),openSeen Q ls (importedModules pg.main.body) Xt true (s8 w os),Hook.obs hk (s8 w os)))=fun _=>(true,openGood Q ls,Hook.val hk w):=by
 rw[W.Fast.te5923862056798008813,W.Fast.te4187177175401517315];intro w;kernel_rfl
theorem left:LeftO pg Q ls Xt (Hook.obs hk) (Hook.val hk) 4398:=LeftO.of_pieces (H₁:=h8) (M:=12+(1+m2)) op size run (by decide) y64
end Op
open PySem PySem.W PyProof.Rows
set_option maxRecDepth 100000 in
theorem PySem.Challenge.cw_duskbook_k46_ifs_won_holds : PySem.Challenge.rw_duskbook_k46_ifs_won.Holds := by
 w_on;o_law
 refine holds_open (q:=Op.Q) (loose:=Op.ls) (Xt:=Op.Xt) (XP:=XL Op.Q []) (Yf:=Hook.obs Op.hk) (Ya:=Hook.val Op.hk) (YP:=InK Op.K) (N:=4398) Op.left (Hook.of Op.hk) (Hook.keeps Op.hk) (fun s e=>xl_of s (Bool.and_eq_true_iff.mp e).1) XL.keeps (by rfl) (by rfl) (by rfl) (fun s e=>recFacts_of (Bool.and_eq_true_iff.mp e).2) (by rfl) (by assumption) (by decide +kernel) ⟨rfl,rfl,rfl,rfl,rfl,by decide +kernel⟩ ?hw ?hc
 (case hw=>w_witness2)
 k_fill
 refine Lw.walk Lw.law_true (l:=PySem.Challenge.rw_duskbook_k46_ifs_won) rfl rfl (K:=Op.K) (fun w h Y=>Y) ?F
 case F=>
  intro w mg fa h KX G hmg
  refine' Lw.all_mk KX G hmg ?_ ?_ ?_ ?_ ?_ ?_ ?_ ?_ ?_ ?_ ?_ ?_ ?_ ?_ ?_ ?_ ?_ ?_ ?_ ?_ ?_ ?_ ?_ ?_ ?_ ?_ ?_ ?_ ?_ ?_ ?_ ?_ ?_ ?_ ?_ ?_ ?_ ?_ ?_ ?_ ?_ ?_ ?_ ?_ ?_ ?_ ?_ ?_ ?_ ?_ ?_ ?_ ?_ ?_ ?_ ?_ ?_ ?_ ?_ ?_ ?_ ?_ ?_ ?_ ?_ ?_ ?_ ?_ ?_ ?_ ?_ ?_ ?_ ?_ ?_ ?_ ?_ ?_ ?_ ?_ ?_ ?_ ?_ ?_ ?_ ?_ ?_ ?_ ?_ ?_ ?_ ?_ ?_ ?_ ?_ ?_ ?_ ?_ ?_ ?_ ?_ ?_ ?_
  all_goals (try (first | k_is | (refine' L2.fun_mk ?l ?c ?k;(case l=>k_is);(case c=>k_is);(case k=>k_is))))
